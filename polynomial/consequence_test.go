package polynomial_test

import (
	"testing"

	"setsquare/api"
	"setsquare/polynomial"
	"setsquare/rational"
)

// P4.2: the values of sums, products and compositions.
func TestValues(t *testing.T) {
	s := source(11)
	pairs(func(a, b []api.Rat) {
		x := s.number()
		atA, atB := polynomial.Eval(a, x), polynomial.Eval(b, x)
		for _, row := range []struct {
			what string
			got  []api.Rat
			want api.Rat
		}{
			{"sum", polynomial.Add(a, b), rational.Add(atA, atB)},
			{"difference", polynomial.Sub(a, b), rational.Sub(atA, atB)},
			{"product", polynomial.Mul(a, b), rational.Mul(atA, atB)},
			{"multiple", polynomial.Scale(a, x), rational.Mul(atA, x)},
			{"composition", polynomial.Compose(a, b), polynomial.Eval(a, atB)},
		} {
			if got := polynomial.Eval(row.got, x); !sameRat(got, row.want) {
				t.Fatalf("P4.2: the value of the %s of %s and %s at %s is %s, not %s", row.what, show(a), show(b), rational.Format(x), rational.Format(got), rational.Format(row.want))
			}
		}
	})
}

// divides reports whether b divides a; 0 divides only itself.
func divides(b, a []api.Rat) bool {
	_, rest, e := polynomial.DivMod(a, b)
	if e != api.OK {
		return polynomial.Degree(a) < 0
	}
	return len(rest) == 0
}

// P4.2: the greatest common divisor divides both polynomials, and every common divisor divides it.
func TestDivisors(t *testing.T) {
	s := source(12)
	pairs(func(a, b []api.Rat) {
		common := s.proper(3)
		a, b = polynomial.Mul(a, common), polynomial.Mul(b, common)
		divisor := polynomial.GCD(a, b)
		if !divides(divisor, a) || !divides(divisor, b) || !divides(common, divisor) {
			t.Fatalf("P4.2: GCD(%s, %s) = %s, with the common divisor %s", show(a), show(b), show(divisor), show(common))
		}
		if reverse := polynomial.GCD(b, a); !same(divisor, reverse) {
			t.Fatalf("P4.2: GCD(%s, %s) = %s, but in reverse %s", show(a), show(b), show(divisor), show(reverse))
		}
	})
}

// P4.2: a squarefree polynomial and its derivative have no common divisor, and it has the same roots.
func TestSimpleRoots(t *testing.T) {
	pairs(func(a, b []api.Rat) {
		a = polynomial.Mul(a, polynomial.Mul(b, b))
		if degree := polynomial.Degree(a); degree < 0 || degree > 9 {
			return
		}
		simple := polynomial.Squarefree(a)
		if common := polynomial.GCD(simple, polynomial.Derivative(simple)); !same(common, of("1")) {
			t.Fatalf("P4.2: Squarefree(%s) = %s and its derivative have the common divisor %s", show(a), show(simple), show(common))
		}
		power := of("1")
		for range polynomial.Degree(a) {
			power = polynomial.Mul(power, simple)
		}
		if !divides(simple, a) || !divides(a, power) {
			t.Fatalf("P4.2: Squarefree(%s) = %s has other roots", show(a), show(simple))
		}
	})
}

// P4.2: derivatives follow the product rule.
func TestProductRule(t *testing.T) {
	pairs(func(a, b []api.Rat) {
		left := polynomial.Mul(polynomial.Derivative(a), b)
		right := polynomial.Mul(a, polynomial.Derivative(b))
		if got, want := polynomial.Derivative(polynomial.Mul(a, b)), polynomial.Add(left, right); !same(got, want) {
			t.Fatalf("P4.2: the derivative of %s times %s is %s, not %s", show(a), show(b), show(got), show(want))
		}
	})
}
