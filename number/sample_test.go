package number_test

import (
	"math/big"
	"slices"

	"setsquare/api"
	"setsquare/number"
	"setsquare/rational"
	"setsquare/root"
	"setsquare/sample"
	"setsquare/sign"
	"setsquare/tower"
)

var (
	of      = sample.Of
	towerOf = sample.Lists
	same    = sample.Same
	whole   = number.FromInt
)

// precision is the number of binary digits of values.
const precision = 1500

// value returns the value of a number, with many digits.
func value(a api.Number) *big.Float {
	var roots []*big.Float
	for _, r := range a.Radicands {
		roots = append(roots, new(big.Float).SetPrec(precision).Sqrt(sumOf(r, roots)))
	}
	return sumOf(a.Coefs, roots)
}

// sumOf returns the sum of the products of coefficients and square roots.
func sumOf(a []api.Rat, roots []*big.Float) *big.Float {
	sum := new(big.Float).SetPrec(precision)
	for p, c := range a {
		x, _ := new(big.Rat).SetString(rational.Format(c))
		product := new(big.Float).SetPrec(precision).SetRat(x)
		for i, w := range roots {
			if p>>i&1 == 1 {
				product.Mul(product, w)
			}
		}
		sum.Add(sum, product)
	}
	return sum
}

// near reports whether two values differ only by rounding. Different numbers of the samples are much farther apart.
func near(x, y *big.Float) bool {
	scale := new(big.Float).SetPrec(precision).Abs(x)
	scale.Add(scale, big.NewFloat(1))
	difference := new(big.Float).SetPrec(precision).Sub(x, y)
	return difference.Abs(difference).Cmp(scale.SetMantExp(scale, -500)) < 0
}

// order returns the sign of the difference of two values.
func order(x, y *big.Float) int {
	if near(x, y) {
		return 0
	}
	return x.Cmp(y)
}

// show returns a number as a text.
func show(a api.Number) string { return sample.Tower(a.Radicands) + " " + sample.Show(a.Coefs) }

// numberOf returns the number of two texts.
func numberOf(radicands, coefs string) api.Number {
	return api.Number{Radicands: towerOf(radicands), Coefs: of(coefs)}
}

// lists returns the lists of a number.
func lists(a api.Number) [][]api.Rat { return append(slices.Clip(a.Radicands), a.Coefs) }

// clone returns a number in new memory.
func clone(a api.Number) api.Number {
	return api.Number{Radicands: sample.CloneAll(a.Radicands), Coefs: sample.Clone(a.Coefs)}
}

// identical reports whether two numbers have the same radicands and coefficients.
func identical(a, b api.Number) bool { return slices.EqualFunc(lists(a), lists(b), same) }

// none reports whether a number is the zero value.
func none(a api.Number) bool { return len(a.Radicands) == 0 && len(a.Coefs) == 0 }

// must returns a result, or the zero value in the case of an error, for which tests fail.
func must(a api.Number, e api.Errno) api.Number {
	if e != api.OK {
		return api.Number{}
	}
	return a
}

// rootOf returns the square root of an integer.
func rootOf(n int64) api.Number { return must(number.Sqrt(whole(n))) }

// total returns the sum of some numbers.
func total(l ...api.Number) api.Number {
	sum := whole(0)
	for _, a := range l {
		sum = must(number.Add(sum, a))
	}
	return sum
}

// rootsOf returns the sum of the square roots of some integers.
func rootsOf(l ...int64) api.Number {
	sum := whole(0)
	for _, n := range l {
		sum = total(sum, rootOf(n))
	}
	return sum
}

// mapped returns an element of a tower, given its square roots as elements of a tower t.
func mapped(t [][]api.Rat, a []api.Rat, roots [][]api.Rat) []api.Rat {
	if len(a) == 1 {
		return tower.FromRat(t, a[0])
	}
	last := 0
	for 2<<last < len(a) {
		last++
	}
	high := mapped(t, a[len(a)/2:], roots)
	return tower.Add(t, mapped(t, a[:len(a)/2], roots), tower.Mul(t, high, sample.Raised(t, roots[last])))
}

// union returns a tower that contains the square roots of some towers, as the chapter defines the height of a list.
func union(towers ...[][]api.Rat) [][]api.Rat {
	var t [][]api.Rat
	for _, other := range towers {
		var roots [][]api.Rat
		for _, r := range other {
			next, w, e := root.Adjoin(t, mapped(t, r, roots))
			if e != api.OK {
				return nil
			}
			t, roots = next, append(roots, w)
		}
	}
	return t
}

// height returns the height of a list of numbers, if it is at most MaxHeight.
func height(l ...api.Number) int {
	var towers [][][]api.Rat
	for _, a := range l {
		towers = append(towers, a.Radicands)
	}
	return len(union(towers...))
}

// A source yields the same numbers in every run.
type source struct{ sample.Source }

// short returns a positive element of a tower with short coefficients.
func (s *source) short(t [][]api.Rat) []api.Rat {
	a := tower.FromRat(t, rational.Frac(int64(1+s.Below(9)), int64(1+s.Below(3))))
	for p := range a {
		if p > 0 && s.Below(2) == 0 {
			a[p] = rational.FromInt(int64(s.Below(7) - 3))
		}
	}
	if sign.Sign(t, a) < 0 {
		return tower.Neg(t, a)
	}
	return a
}

// radicand returns a positive radicand of some kind.
func (s *source) radicand(t [][]api.Rat, kind int) []api.Rat {
	switch kind {
	case 0:
		return tower.FromRat(t, rational.FromInt([]int64{2, 3, 5, 6, 7, 10, 14, 15, 21, 35}[s.Below(10)]))
	case 1:
		return tower.FromRat(t, rational.Frac(int64(1+s.Below(60)), int64(1+s.Below(6))))
	}
	return s.short(t)
}

// tower returns a reduced tower.
func (s *source) tower(height int) [][]api.Rat {
	var t [][]api.Rat
	kind := s.Below(3)
	for len(t) < height {
		if next, _, e := root.Adjoin(t, s.radicand(t, kind)); e == api.OK {
			t = next
		} else {
			kind = 2
		}
		if s.Below(4) == 0 {
			kind = 2
		}
	}
	return t
}

// number returns a number with some radicands.
func (s *source) number(height int) api.Number {
	t := s.tower(height)
	return api.Number{Radicands: t, Coefs: s.Element(1 << height)}
}

// variant returns a number with the same value. All of its radicands are other ones, and there may be further ones.
func (s *source) variant(a api.Number, most int) api.Number {
	var t, roots [][]api.Rat
	for _, r := range a.Radicands {
		if s.Below(4) == 0 && len(t) < most-len(a.Radicands) {
			t, _, _ = root.Adjoin(t, s.radicand(t, s.Below(3)))
		}
		factor := s.short(t)
		next, w, _ := root.Adjoin(t, tower.Mul(t, mapped(t, r, roots), tower.Mul(t, factor, factor)))
		inverse, _ := tower.Inv(t, factor)
		t, roots = next, append(roots, tower.Mul(next, w, sample.Raised(next, inverse)))
	}
	return api.Number{Radicands: t, Coefs: mapped(t, a.Coefs, roots)}
}

// pairs calls a function with many pairs of numbers, whose towers have up to most radicands.
func pairs(count, most int, f func(s *source, a, b api.Number)) {
	s := source{91}
	for k := range count {
		a := s.number(k % (most + 1))
		b := s.number(s.Below(most + 1))
		switch s.Below(5) {
		case 0:
			b = s.variant(a, most)
		case 1:
			// The same field, with other radicands.
			b = s.variant(api.Number{Radicands: a.Radicands, Coefs: s.Element(len(a.Coefs))}, most)
		case 2:
			b = api.Number{Radicands: sample.CloneAll(a.Radicands), Coefs: s.Element(len(a.Coefs))}
		}
		if s.Below(2) == 0 {
			a, b = b, a
		}
		f(&s, a, b)
	}
}
