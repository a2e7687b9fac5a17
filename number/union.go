package number

import (
	"math/bits"
	"slices"

	"setsquare/api"
	"setsquare/rational"
	"setsquare/root"
	"setsquare/tower"
)

// A union is a common tower of numbers, with the square roots of the towers that were included so far.
type union struct {
	tower [][]api.Rat
	parts []part
}

// A part is a tower that is included in a union.
type part struct {
	tower [][]api.Rat
	roots []image
}

// An image is the square root of a radicand of a part as an element of the union: a square root of the union, or any
// other element, which may lack the coefficients for radicands that the union got later.
type image struct {
	index   int
	element []api.Rat // empty for the square root of radicand number index
}

// unionOf returns a tower as a union.
func unionOf(t [][]api.Rat) union {
	p := part{tower: t}
	for i := range t {
		p.roots = append(p.roots, image{index: i})
	}
	return union{t, []part{p}}
}

// common returns a common tower of numbers with as few radicands as possible, and the numbers as elements of it. They
// may share memory with the arguments, and with one another.
func common(l ...api.Number) ([][]api.Rat, [][]api.Rat, api.Errno) {
	var highest [][]api.Rat
	for _, a := range l {
		if !shaped(a) {
			return nil, nil, api.ErrInvalid
		}
		if len(a.Radicands) > len(highest) {
			highest = a.Radicands
		}
	}
	if len(highest) > api.MaxHeight {
		return nil, nil, api.ErrTooLarge
	}
	u := unionOf(highest)
	roots := make([][]image, len(l))
	for k, a := range l {
		var e api.Errno
		if roots[k], e = u.include(a.Radicands); e != api.OK {
			return nil, nil, e
		}
	}
	elements := make([][]api.Rat, len(l))
	for k, a := range l {
		elements[k] = u.element(a.Coefs, roots[k])
	}
	return u.tower, elements, api.OK
}

// include adds the radicands of a tower whose square roots do not belong to the union, and returns the images of all its
// square roots.
func (u *union) include(t [][]api.Rat) ([]image, api.Errno) {
	for _, p := range u.parts {
		if len(t) <= len(p.tower) && sameTower(t, p.tower[:len(t)]) {
			return p.roots[:len(t)], api.OK
		}
	}
	p := part{tower: t}
	for _, r := range t {
		w, e := u.rootOf(u.element(r, p.roots))
		if e != api.OK {
			return nil, e
		}
		p.roots = append(p.roots, w)
	}
	u.parts = append(u.parts, p)
	return p.roots, api.OK
}

// rootOf returns the square root of an element of the union, which gets a further radicand if it is no square.
func (u *union) rootOf(a []api.Rat) (image, api.Errno) {
	if len(a) != 1<<len(u.tower) {
		// There is no product if a radicand is not formed.
		return image{}, api.ErrInvalid
	}
	for i, r := range u.tower {
		// This is the most frequent case, and it takes much longer to find the square root of an element.
		if same(r, a[:len(r)]) && tower.Zero(a[len(r):]) {
			return image{index: i}, api.OK
		}
	}
	next, w, e := root.Adjoin(u.tower, a)
	switch {
	case e != api.OK:
		return image{}, e
	case len(next) > len(u.tower):
		u.tower = next
		return image{index: len(next) - 1}, api.OK
	}
	return image{element: w}, api.OK
}

// element returns an element of a part as one of the union.
func (u *union) element(a []api.Rat, roots []image) []api.Rat {
	if len(u.tower) == 0 {
		return a
	}
	if places, ok := u.places(roots[:height(a)]); ok {
		result := u.padded(nil)
		for p, c := range a {
			result[places[p]] = c
		}
		return result
	}
	low, high := a[:len(a)/2], a[len(a)/2:]
	x := u.element(low, roots)
	if tower.Zero(high) {
		return x
	}
	return sum(u.tower, x, u.times(u.element(high, roots), roots[height(high)]))
}

// height returns the number of radicands of the tower of an element.
func height(a []api.Rat) int { return bits.Len(uint(len(a))) - 1 }

// places returns the number of the coefficient of the union for each coefficient of a part, if all images are square
// roots of the union.
func (u *union) places(roots []image) ([]int, bool) {
	places := []int{0}
	for _, w := range roots {
		if w.element != nil {
			return nil, false
		}
		for _, p := range places {
			places = append(places, p|1<<w.index)
		}
	}
	return places, true
}

// times returns the product of an element of the union and an image.
func (u *union) times(a []api.Rat, w image) []api.Rat {
	if w.element == nil {
		return tower.Mul(u.tower, a, tower.Root(u.tower, w.index))
	}
	return tower.Mul(u.tower, a, u.padded(w.element))
}

// padded returns an element of the first radicands as one of the union.
func (u *union) padded(a []api.Rat) []api.Rat {
	result := slices.Clone(a)
	zero := rational.FromInt(0)
	for len(result) < 1<<len(u.tower) {
		result = append(result, zero)
	}
	return result
}
