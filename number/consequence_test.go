package number_test

import (
	"testing"

	"setsquare/api"
	"setsquare/number"
)

// triples calls a function with many triples of numbers.
func triples(count int, f func(s *source, a, b, c api.Number)) {
	pairs(count, 2, func(s *source, a, b api.Number) {
		c := s.Constructible(s.Below(3))
		if s.Below(3) == 0 {
			c = s.Variant(a, 2)
		}
		f(s, a, b, c)
	})
}

func plus(a, b api.Number) api.Number  { return must(number.Add(a, b)) }
func times(a, b api.Number) api.Number { return must(number.Mul(a, b)) }

// law checks that two numbers are equal, and that both are valid.
func law(t *testing.T, name string, a, b api.Number) {
	t.Helper()
	if !number.Valid(a) || !number.Valid(b) || !number.Equal(a, b) {
		t.Fatalf("P9.2: %s: %.900s and %.900s", name, show(a), show(b))
	}
}

// P9.2: the numbers are a field.
func TestField(t *testing.T) {
	zero, one := whole(0), whole(1)
	triples(300, func(s *source, a, b, c api.Number) {
		law(t, "a + b = b + a", plus(a, b), plus(b, a))
		law(t, "a + (b + c) = (a + b) + c", plus(a, plus(b, c)), plus(plus(a, b), c))
		law(t, "a + 0 = a", plus(a, zero), a)
		law(t, "a + (-a) = 0", plus(a, number.Neg(a)), zero)
		law(t, "a - b = a + (-b)", must(number.Sub(a, b)), plus(a, number.Neg(b)))
		law(t, "a b = b a", times(a, b), times(b, a))
		law(t, "a (b c) = (a b) c", times(a, times(b, c)), times(times(a, b), c))
		law(t, "a 1 = a", times(a, one), a)
		law(t, "a (b + c) = a b + a c", times(a, plus(b, c)), plus(times(a, b), times(a, c)))
		if number.Sign(b) != 0 {
			law(t, "a / b b = a", times(must(number.Div(a, b)), b), a)
			law(t, "a / b = a (1 / b)", must(number.Div(a, b)), times(a, must(number.Div(one, b))))
		}
	})
}

// compare returns the result of Cmp, or 2 in the case of an error.
func compare(a, b api.Number) int {
	s, e := number.Cmp(a, b)
	if e != api.OK {
		return 2
	}
	return s
}

// P9.2: the field is ordered: sums and products of positive numbers are positive, and the order is total.
func TestOrderedField(t *testing.T) {
	triples(500, func(s *source, a, b, c api.Number) {
		order := compare(a, b)
		switch {
		case order != -compare(b, a) || order != number.Sign(must(number.Sub(a, b))) || order == 2:
			t.Fatalf("P9.2: the order of %.600s and %.600s", show(a), show(b))
		case compare(plus(a, c), plus(b, c)) != order:
			t.Fatalf("P9.2: the order of %.600s and %.600s changes by the addition of %.600s", show(a), show(b), show(c))
		case compare(times(a, c), times(b, c)) != order*number.Sign(c):
			t.Fatalf("P9.2: the order of %.600s and %.600s after the multiplication by %.600s", show(a), show(b), show(c))
		case number.Sign(times(a, b)) != number.Sign(a)*number.Sign(b):
			t.Fatalf("P9.2: the sign of the product of %.600s and %.600s", show(a), show(b))
		case number.Sign(number.Neg(a)) != -number.Sign(a):
			t.Fatalf("P9.2: the sign of the number opposite to %.600s", show(a))
		case order <= 0 && compare(b, c) <= 0 && compare(a, c) > 0:
			t.Fatalf("P9.2: the order of %.600s, %.600s and %.600s", show(a), show(b), show(c))
		}
	})
}

// P9.2: every positive number has a square root, and the square root of a square is the absolute value.
func TestSquareRoots(t *testing.T) {
	triples(500, func(s *source, a, b, _ api.Number) {
		absolute := a
		if number.Sign(a) < 0 {
			absolute = number.Neg(a)
		}
		w := must(number.Sqrt(absolute))
		if number.Sign(w) != number.Sign(absolute) {
			t.Fatalf("P9.2: the sign of the square root of %.600s", show(absolute))
		}
		law(t, "sqrt a sqrt a = a", times(w, w), absolute)
		law(t, "sqrt(a a) = |a|", must(number.Sqrt(times(a, a))), absolute)
		product := times(b, b)
		law(t, "sqrt(a b b) = sqrt a |b|", must(number.Sqrt(times(absolute, product))), times(w, must(number.Sqrt(product))))
	})
}

// P9.2: only equal numbers have the difference 0, whatever their radicands are.
func TestDifference(t *testing.T) {
	equal := 0
	triples(600, func(s *source, a, b, _ api.Number) {
		if s.Below(2) == 0 {
			b = s.Variant(a, 3)
		}
		difference := must(number.Sub(a, b))
		zero, ok := number.Rational(difference)
		isZero := ok && number.Equal(number.FromRat(zero), whole(0))
		if isZero != number.Equal(a, b) || isZero != (number.Sign(difference) == 0) || isZero != (compare(a, b) == 0) || isZero != near(value(a), value(b)) {
			t.Fatalf("P9.2: the difference of %.600s and %.600s is %.600s", show(a), show(b), show(difference))
		}
		if isZero && len(a.Radicands) > 0 {
			equal++
		}
	})
	if equal < 150 {
		t.Errorf("the samples have too few equal numbers: %d", equal)
	}
}

// P9.2: sums and products do not depend on the representations of the summands and factors.
func TestRepresentations(t *testing.T) {
	triples(300, func(s *source, a, b, _ api.Number) {
		x, y := s.Variant(a, 3), s.Variant(b, 3)
		law(t, "a sum", plus(a, b), plus(x, y))
		law(t, "a product", times(a, b), times(x, y))
		if number.Sign(a) >= 0 {
			law(t, "a square root", must(number.Sqrt(a)), must(number.Sqrt(x)))
		}
		if number.Sign(a) != number.Sign(x) || compare(a, b) != compare(x, y) {
			t.Fatalf("P9.2: the sign of %.600s, or the order of it and %.600s", show(a), show(b))
		}
	})
}
