package algebraic_test

import (
	"cmp"
	"testing"

	"setsquare/algebraic"
	"setsquare/api"
	"setsquare/number"
	"setsquare/polynomial"
	"setsquare/rational"
	"setsquare/sample"
	"setsquare/specimen"
)

// expectCmp checks Cmp for forms of two numbers, in both orders.
func expectCmp(t *testing.T, f, g api.Algebraic, want int) {
	t.Helper()
	if got, back := algebraic.Cmp(f, g), algebraic.Cmp(g, f); got != want || back != -want {
		t.Fatalf("P10.1: Cmp(%.600s, %.600s): %d, and %d the other way round, want %d", show(f), show(g), got, back, want)
	}
}

// P10.1: the order of forms, which need not be canonical, is that of the numbers.
func TestCmp(t *testing.T) {
	counts := map[int]int{}
	specimen.Pairs(120, 3, func(s *source, a, b api.Number) {
		want, e := number.Cmp(a, b)
		if e != api.OK {
			t.Fatalf("no order of %.600s and %.600s", showNum(a), showNum(b))
		}
		for _, f := range append(others(s, a), algebraic.Of(a)) {
			for _, g := range append(others(s, b), algebraic.Of(b)) {
				expectCmp(t, f, g, want)
				counts[want]++
			}
		}
	})
	if min(counts[-1], counts[0], counts[1]) < 200 {
		t.Errorf("the samples have too few cases: %v", counts)
	}
}

// P10.1: forms with the same value and different polynomials, values that are close to one another, roots of the same
// polynomial, and values that are ends of intervals.
func TestCmpTable(t *testing.T) {
	for _, row := range []struct {
		a, b api.Algebraic
		want int
	}{
		{form("-2 0 1", 1), form("2 -2 -1 1", 2), 0},
		{form("-2 0 1", 0), form("2 -2 -1 1", 0), 0},
		{form("-2 0 1", 1), form("2 -2 -1 1", 1), 1},
		{form("-2 0 1", 1), form("2 -2 -1 1", 0), 1},
		{form("-2 0 1", 0), form("2 -2 -1 1", 1), -1},
		{form("-2 0 1", 1), form("6 0 -5 0 1", 2), 0},
		{form("-2 0 1", 1), form("6 0 -5 0 1", 3), -1},
		{form("-2 0 1", 1), form("6 0 -5 0 1", 1), 1},
		{form("-2 0 1", 1), form("-6 0 1 0 1", 1), 0},
		{form("6 0 -5 0 1", 2), form("-6 0 1 0 1", 1), 0},
		{form("6 0 -5 0 1", 1), form("-6 0 1 0 1", 0), 0},
		{form("6 0 -5 0 1", 3), form("-6 0 1 0 1", 1), 1},
		{form("6 0 -5 0 1", 2), form("-6 0 1 0 1", 0), 1},
		{form("0 1", 0), form("0 -1 0 1", 1), 0},
		{form("0 1", 0), form("0 1 0 1", 0), 0},
		{form("0 1", 0), form("0 -1 0 3", 1), 0},
		{form("0 1", 0), form("0 -1 0 3", 2), -1},
		{form("-1 2", 0), form("-1 0 4", 1), 0},
		{form("-1 2", 0), form("-1 0 4", 0), 1},
		{form("-1 1", 0), form("0 -1 0 1", 2), 0},
		{form("1 1", 0), form("0 -1 0 1", 0), 0},
		{form("-1 1", 0), form("0 -1 0 1", 1), 1},
		{form("-7 5", 0), form("-2 0 1", 1), -1},
		{form("-14142135623730950489 10000000000000000000", 0), form("-2 0 1", 1), 1},
		{form("-3 4", 0), form("-750000000000000000000001 1000000000000000000000000", 0), -1},
	} {
		if !algebraic.Valid(row.a) || !algebraic.Valid(row.b) {
			t.Fatalf("P10.1: Valid(%s) or Valid(%s) is false", show(row.a), show(row.b))
		}
		expectCmp(t, row.a, row.b, row.want)
	}
	f := polynomial.Mul(sample.Of("2 -2 -1 1"), sample.Of("-3 0 1"))
	for j := range 5 {
		for k := range 5 {
			expectCmp(t, formOf(f, j), formOf(f, k), cmp.Compare(j, k))
		}
	}
}

// P10.1: values whose difference is much less than 1.
func TestCmpClose(t *testing.T) {
	tiny := sample.Long(1, 0, 1, 400)
	root := algebraic.Of(rootOf(2))
	near := algebraic.Of(specimen.Sum(rootOf(2), number.FromRat(tiny)))
	expectCmp(t, root, near, -1)
	expectCmp(t, near, algebraic.Of(specimen.Sum(rootOf(2), number.FromRat(rational.Mul(tiny, rational.Frac(1, 3))))), 1)
	// A common factor, whose root is one of the close ones.
	other := polynomial.Mul(poly(near), poly(root))
	expectCmp(t, root, formOf(other, 2), 0)
	expectCmp(t, root, formOf(other, 3), -1)
	expectCmp(t, near, formOf(other, 2), 1)
	expectCmp(t, near, formOf(other, 3), 0)
	expectCmp(t, formOf(polynomial.Mul(other, sample.Of("1 0 1")), 3), formOf(polynomial.Mul(other, sample.Of("-5 1")), 2), 1)
	expectCmp(t, formOf(polynomial.Mul(other, sample.Of("1 0 1")), 3), formOf(polynomial.Mul(other, sample.Of("-5 1")), 3), 0)
}

// P10.1: 0 if one of the forms is not valid.
func TestCmpErrors(t *testing.T) {
	for _, a := range invalid() {
		for _, b := range append(valid()[:9], a, invalid()[3]) {
			if x, y := algebraic.Cmp(a, b), algebraic.Cmp(b, a); x != 0 || y != 0 {
				t.Errorf("P10.1: Cmp(%v, %v): %d and %d", a, b, x, y)
			}
		}
	}
}
