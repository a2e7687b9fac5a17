package root

import (
	"math/bits"

	"setsquare/api"
	"setsquare/rational"
	"setsquare/sign"
	"setsquare/tower"
)

// A field is a reduced tower, with the places that were needed so far, by the numbers of their square roots.
type field struct {
	tower  [][]api.Rat
	places [][]place
	prime  uint64 // all greater ones were tried
}

// fieldOf returns the field of a tower, and whether the tower is reduced, and a formed for it.
func fieldOf(t [][]api.Rat, a []api.Rat) (*field, bool) {
	if !tower.Formed(t, a) || !sign.Real(t) {
		return nil, false
	}
	f := &field{places: make([][]place, 1), prime: greatestPrime}
	for _, r := range t {
		if _, ok := f.root(r); ok {
			return nil, false
		}
		f.extend(r)
	}
	return f, true
}

// extend adds a radicand, which is not a square.
func (f *field) extend(r []api.Rat) {
	top := len(f.tower)
	found := f.places[top]
	f.tower = append(f.tower, r)
	f.places[top] = nil
	f.places = append(f.places, nil)
	for _, m := range found {
		f.keep(m)
	}
}

// halves returns u and v for the element u + v s, where s is the last square root.
func halves(a []api.Rat) ([]api.Rat, []api.Rat) { return a[:len(a)/2], a[len(a)/2:] }

// height returns the number of radicands of the tower of an element.
func height(a []api.Rat) int { return bits.Len(uint(len(a))) - 1 }

// positiveRoot returns the square root that is not negative, if the element is a square.
func (f *field) positiveRoot(a []api.Rat) ([]api.Rat, bool) {
	w, ok := f.root(a)
	if ok && sign.Sign(f.tower, w) < 0 {
		w = tower.Neg(f.tower, w)
	}
	return w, ok
}

// root returns a square root, which may be negative, if an element of the tower of the first radicands is a square there.
func (f *field) root(a []api.Rat) ([]api.Rat, bool) {
	if len(a) == 1 {
		n, ok := rational.Sqrt(a[0])
		if !ok {
			return nil, false
		}
		return []api.Rat{n}, true
	}
	if height(a) >= highTower && f.excludes(a) {
		return nil, false
	}
	u, v := halves(a)
	if tower.Zero(v) {
		return f.rootOfHalf(u)
	}
	return f.rootOfBoth(a)
}

// rootOfHalf returns a square root of u + 0 s, if there is one: w if u is the square of w, or w s if u / r is.
func (f *field) rootOfHalf(u []api.Rat) ([]api.Rat, bool) {
	below, r := f.tower[:height(u)], f.tower[height(u)]
	zero := tower.FromRat(below, rational.FromInt(0))
	if w, ok := f.root(u); ok {
		return append(w, zero...), true
	}
	inverse, _ := tower.Inv(below, r)
	w, ok := f.root(tower.Mul(below, u, inverse))
	if !ok {
		return nil, false
	}
	return append(zero, w...), true
}

// rootOfBoth returns a square root w + v / (2 w) s of u + v s, if there is one; v is not 0.
func (f *field) rootOfBoth(a []api.Rat) ([]api.Rat, bool) {
	u, v := halves(a)
	below := f.tower[:height(u)]
	n, ok := f.root(tower.Norm(f.tower[:height(a)], a))
	if !ok {
		return nil, false
	}
	half := tower.FromRat(below, rational.Frac(1, 2))
	for _, double := range [][]api.Rat{tower.Add(below, u, n), tower.Sub(below, u, n)} {
		if w, ok := f.root(tower.Mul(below, half, double)); ok {
			inverse, _ := tower.Inv(below, tower.Add(below, w, w))
			return append(w, tower.Mul(below, v, inverse)...), true
		}
	}
	return nil, false
}
