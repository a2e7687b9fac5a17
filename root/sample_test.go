package root_test

import (
	"setsquare/api"
	"setsquare/rational"
	"setsquare/sample"
	"setsquare/sign"
	"setsquare/tower"
)

var (
	show       = sample.Show
	of         = sample.Of
	towerOf    = sample.Lists
	clone      = sample.Clone
	cloneTower = sample.CloneAll
	same       = sample.Same
	nought     = sample.Zeros
	raised     = sample.Raised
)

// definition returns a square root of an element of a reduced tower, as the chapter defines it, or nothing.
func definition(t [][]api.Rat, a []api.Rat) []api.Rat {
	if len(t) == 0 {
		n, ok := rational.Sqrt(a[0])
		if !ok {
			return nil
		}
		return []api.Rat{n}
	}
	below, r := t[:len(t)-1], t[len(t)-1]
	u, v := a[:len(a)/2], a[len(a)/2:]
	if tower.Zero(v) {
		if w := definition(below, u); w != nil {
			return append(w, nought(len(u))...)
		}
		if w := definition(below, quotient(below, u, r)); w != nil {
			return append(nought(len(u)), w...)
		}
		return nil
	}
	square := tower.Sub(below, tower.Mul(below, u, u), tower.Mul(below, r, tower.Mul(below, v, v)))
	n := definition(below, square)
	if n == nil {
		return nil
	}
	two := tower.FromRat(below, rational.FromInt(2))
	for _, double := range [][]api.Rat{tower.Add(below, u, n), tower.Sub(below, u, n)} {
		if w := definition(below, quotient(below, double, two)); w != nil {
			return append(w, quotient(below, v, tower.Mul(below, two, w))...)
		}
	}
	return nil
}

// quotient returns a divided by b, which is not 0.
func quotient(t [][]api.Rat, a, b []api.Rat) []api.Rat {
	inverse, _ := tower.Inv(t, b)
	return tower.Mul(t, a, inverse)
}

// absolute returns an element or its opposite, so that it is not negative.
func absolute(t [][]api.Rat, a []api.Rat) []api.Rat {
	if sign.Sign(t, a) < 0 {
		return tower.Neg(t, a)
	}
	return a
}

// square returns a times a.
func square(t [][]api.Rat, a []api.Rat) []api.Rat { return tower.Mul(t, a, a) }

// extended returns a tower with a further radicand, in new memory.
func extended(t [][]api.Rat, r []api.Rat) [][]api.Rat { return append(cloneTower(t), clone(r)) }

// A source yields the same towers and elements in every run.
type source struct{ sample.Source }

// short returns an element with short coefficients, few of which are 0.
func (s *source) short(n int) []api.Rat {
	a := nought(n)
	for p := range a {
		a[p] = rational.Frac(int64(s.Below(15)-7), int64(1+s.Below(3)))
	}
	return a
}

// nonsquare returns a positive element of a reduced tower that is no square; it is of some kind, if there is one.
func (s *source) nonsquare(t [][]api.Rat, kind int) []api.Rat {
	for ; ; kind = 4 {
		r := s.short(1 << len(t))
		switch {
		case kind < 3:
			r = s.Radicand(t, kind)
		case kind == 3:
			// The product of a rational number and a square.
			r = tower.Mul(t, square(t, r), tower.FromRat(t, s.Number()))
		}
		r = absolute(t, r)
		if !tower.Zero(r) && definition(t, r) == nil {
			return r
		}
	}
}

// tower returns a reduced tower.
func (s *source) tower(height int) [][]api.Rat {
	t := [][]api.Rat{}
	kind := s.Below(6)
	for range height {
		if kind == 5 {
			t = append(t, s.nonsquare(t, s.Below(5)))
		} else {
			t = append(t, s.nonsquare(t, kind))
		}
	}
	return t
}

// A scene consists of a reduced tower and two elements.
type scene struct {
	tower [][]api.Rat
	a, b  []api.Rat
}

// scenes calls a function with many reduced towers of heights up to most, and elements.
func scenes(count, most int, f func(s *source, x scene)) {
	s := source{81}
	for k := range count {
		height := k % (most + 1)
		x := scene{s.tower(height), s.Element(1 << height), s.short(1 << height)}
		if s.Below(2) == 0 {
			x.a, x.b = x.b, x.a
		}
		f(&s, x)
	}
}

// show returns the scene as a text.
func (x scene) show() string {
	return sample.Tower(x.tower) + ", elements " + show(x.a) + " and " + show(x.b)
}

// chain returns the reduced tower in which the square of each square root is the one before, plus 1. None of these
// radicands is a square, because their norms are negative.
func chain(height int) [][]api.Rat {
	t := [][]api.Rat{}
	for i := range height {
		r := nought(1 << i)
		r[0] = rational.FromInt(1)
		if i == 0 {
			r[0] = rational.FromInt(2)
		} else {
			r[len(r)/2] = rational.FromInt(1)
		}
		t = append(t, r)
	}
	return t
}

// primes returns the reduced tower of the first prime numbers.
func primes(height int) [][]api.Rat {
	t := [][]api.Rat{}
	for i, n := range []int64{2, 3, 5, 7, 11, 13, 17, 19, 23}[:height] {
		r := nought(1 << i)
		r[0] = rational.FromInt(n)
		t = append(t, r)
	}
	return t
}
