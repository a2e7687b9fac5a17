package polynomial_test

import (
	"testing"

	"setsquare/api"
	"setsquare/polynomial"
)

// checkDivision checks the quotient and the remainder of a division.
func checkDivision(t *testing.T, a, b []api.Rat) {
	t.Helper()
	quotient, rest, e := polynomial.DivMod(a, b)
	x, y := polynomialOf(a), polynomialOf(b)
	if len(y) == 0 {
		if e != api.ErrZero || len(quotient) != 0 || len(rest) != 0 {
			t.Fatalf("P4.1: DivMod(%s, %s): got %s, %s, %v", show(a), show(b), show(quotient), show(rest), e)
		}
		return
	}
	if e != api.OK || degree(t, quotient) < -1 || degree(t, rest) >= len(y)-1 {
		t.Fatalf("P4.1: DivMod(%s, %s): got %s, %s, %v", show(a), show(b), show(quotient), show(rest), e)
	}
	expect(t, "P4.1: DivMod: quotient times divisor plus remainder", written(polynomialOf(quotient).times(y).plus(polynomialOf(rest))), x)
	expect(t, "P4.1: DivMod: remainder", rest, x.remainder(y))
}

// P4.1: quotients and remainders, of divisors of all degrees, and multiples of the divisor.
func TestDivMod(t *testing.T) {
	pairs(func(a, b []api.Rat) {
		checkDivision(t, a, b)
		checkDivision(t, written(polynomialOf(a).times(polynomialOf(b))), b)
		checkDivision(t, loose(b), a)
	})
	s := source(5)
	for range 150 {
		checkDivision(t, s.some(20), s.some(9))
	}
}

// P4.1: a division by 0 in any of its forms.
func TestDivModByZero(t *testing.T) {
	for _, zero := range zeros() {
		for _, a := range append(zeros(), of("3"), of("1 2 3")) {
			checkDivision(t, a, zero)
		}
	}
}

// P4.1: constants, divisors of the same and of a greater degree, and remainders whose degree is much smaller.
func TestDivModRows(t *testing.T) {
	for _, x := range []struct{ a, b, quotient, rest string }{
		{"", "3", "", ""}, {"0 0", "1 1", "", ""}, {"5", "2", "5/2", ""}, {"5", "-1 2", "", "5"}, {"1 2 3", "-2", "-1/2 -1 -3/2", ""},
		{"1 2", "0 0 0 1", "", "1 2"}, {"1 2 0", "0 0 1 0", "", "1 2"}, {"1 2", "3 4", "1/2", "-1/2"}, {"0 0 0 0 1", "1 0 1", "-1 0 1", "1"},
		{"1 0 0 0 0 1", "0 0 0 2", "0 0 1/2", "1"}, {"-1 0 0 0 0 0 1", "-1 0 0 1", "1 0 0 1", ""}, {"0 0 1", "1 2", "-1/4 1/2", "1/4"}, {"0 0 1/3", "1/5 -2/7", "-49/60 -7/6", "49/300"},
	} {
		quotient, rest, e := polynomial.DivMod(of(x.a), of(x.b))
		if e != api.OK || !same(quotient, of(x.quotient)) || !same(rest, of(x.rest)) {
			t.Errorf("P4.1: DivMod(%s, %s): got %s, %s, %v", x.a, x.b, show(quotient), show(rest), e)
		}
	}
}
