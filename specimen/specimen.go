// Package specimen contains constructible numbers that the tests of several layers use. The layers do not use it.
package specimen

import (
	"slices"

	"setsquare/api"
	"setsquare/number"
	"setsquare/rational"
	"setsquare/root"
	"setsquare/sample"
	"setsquare/sign"
	"setsquare/tower"
)

// Of returns the number of two texts: its radicands and its coefficients.
func Of(radicands, coefs string) api.Number {
	return api.Number{Radicands: sample.Lists(radicands), Coefs: sample.Of(coefs)}
}

// Lists returns the lists of a number.
func Lists(a api.Number) [][]api.Rat { return append(slices.Clip(a.Radicands), a.Coefs) }

// Show returns a number as a text.
func Show(a api.Number) string { return sample.Tower(a.Radicands) + " " + sample.Show(a.Coefs) }

// Clone returns a number in new memory.
func Clone(a api.Number) api.Number {
	return api.Number{Radicands: sample.CloneAll(a.Radicands), Coefs: sample.Clone(a.Coefs)}
}

// Identical reports whether two numbers have the same radicands and coefficients.
func Identical(a, b api.Number) bool { return slices.EqualFunc(Lists(a), Lists(b), sample.Same) }

// Must returns a result, or the zero value in the case of an error, for which tests fail.
func Must(a api.Number, e api.Errno) api.Number {
	if e != api.OK {
		return api.Number{}
	}
	return a
}

// Root returns the square root of an integer.
func Root(n int64) api.Number { return Must(number.Sqrt(number.FromInt(n))) }

// Sum returns the sum of some numbers.
func Sum(l ...api.Number) api.Number {
	sum := number.FromInt(0)
	for _, a := range l {
		sum = Must(number.Add(sum, a))
	}
	return sum
}

// Roots returns the sum of the square roots of some integers.
func Roots(l ...int64) api.Number {
	sum := number.FromInt(0)
	for _, n := range l {
		sum = Sum(sum, Root(n))
	}
	return sum
}

// Mapped returns an element of a tower, given its square roots as elements of a tower t.
func Mapped(t [][]api.Rat, a []api.Rat, roots [][]api.Rat) []api.Rat {
	if len(a) == 1 {
		return tower.FromRat(t, a[0])
	}
	last := 0
	for 2<<last < len(a) {
		last++
	}
	high := Mapped(t, a[len(a)/2:], roots)
	return tower.Add(t, Mapped(t, a[:len(a)/2], roots), tower.Mul(t, high, sample.Raised(t, roots[last])))
}

// A Source yields the same numbers in every run.
type Source struct{ sample.Source }

// short returns a positive element of a tower with short coefficients.
func (s *Source) short(t [][]api.Rat) []api.Rat {
	a := tower.FromRat(t, rational.Frac(int64(1+s.Below(9)), int64(1+s.Below(3))))
	for p := range a {
		if p > 0 && s.Below(2) == 0 {
			a[p] = rational.FromInt(int64(s.Below(7) - 3))
		}
	}
	if sign.Sign(t, a) < 0 {
		return tower.Neg(t, a)
	}
	return a
}

// radicand returns a positive radicand of some kind.
func (s *Source) radicand(t [][]api.Rat, kind int) []api.Rat {
	switch kind {
	case 0:
		return tower.FromRat(t, rational.FromInt([]int64{2, 3, 5, 6, 7, 10, 14, 15, 21, 35}[s.Below(10)]))
	case 1:
		return tower.FromRat(t, rational.Frac(int64(1+s.Below(60)), int64(1+s.Below(6))))
	}
	return s.short(t)
}

// Tower returns a reduced tower.
func (s *Source) Tower(height int) [][]api.Rat {
	var t [][]api.Rat
	kind := s.Below(3)
	for len(t) < height {
		if next, _, e := root.Adjoin(t, s.radicand(t, kind)); e == api.OK {
			t = next
		} else {
			kind = 2
		}
		if s.Below(4) == 0 {
			kind = 2
		}
	}
	return t
}

// Constructible returns a number with some radicands.
func (s *Source) Constructible(height int) api.Number {
	t := s.Tower(height)
	return api.Number{Radicands: t, Coefs: s.Element(1 << height)}
}

// Variant returns a number with the same value. All of its radicands are other ones, and there may be further ones, so
// that there are at most as many as most.
func (s *Source) Variant(a api.Number, most int) api.Number {
	var t, roots [][]api.Rat
	for _, r := range a.Radicands {
		if s.Below(4) == 0 && len(t) < most-len(a.Radicands) {
			t, _, _ = root.Adjoin(t, s.radicand(t, s.Below(3)))
		}
		factor := s.short(t)
		next, w, _ := root.Adjoin(t, tower.Mul(t, Mapped(t, r, roots), tower.Mul(t, factor, factor)))
		inverse, _ := tower.Inv(t, factor)
		t, roots = next, append(roots, tower.Mul(next, w, sample.Raised(next, inverse)))
	}
	return api.Number{Radicands: t, Coefs: Mapped(t, a.Coefs, roots)}
}

// Pairs calls a function with many pairs of numbers, whose towers have up to most radicands.
func Pairs(count, most int, f func(s *Source, a, b api.Number)) {
	s := Source{91}
	for k := range count {
		a := s.Constructible(k % (most + 1))
		b := s.Constructible(s.Below(most + 1))
		switch s.Below(5) {
		case 0:
			b = s.Variant(a, most)
		case 1:
			// The same field, with other radicands.
			b = s.Variant(api.Number{Radicands: a.Radicands, Coefs: s.Element(len(a.Coefs))}, most)
		case 2:
			b = api.Number{Radicands: sample.CloneAll(a.Radicands), Coefs: s.Element(len(a.Coefs))}
		}
		if s.Below(2) == 0 {
			a, b = b, a
		}
		f(&s, a, b)
	}
}
