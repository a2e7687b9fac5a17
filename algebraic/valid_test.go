package algebraic_test

import (
	"testing"

	"setsquare/algebraic"
	"setsquare/api"
	"setsquare/integer"
	"setsquare/polynomial"
	"setsquare/rational"
	"setsquare/sample"
	"setsquare/sturm"
)

// P10.1: Valid for forms that are valid, and for such that are not.
func TestValid(t *testing.T) {
	for _, a := range valid() {
		if !algebraic.Valid(a) {
			t.Errorf("P10.1: Valid(%s) is false", show(a))
		}
	}
	for _, a := range invalid() {
		if algebraic.Valid(a) {
			t.Errorf("P10.1: Valid(%v) is true", a)
		}
	}
}

// polys calls a function with many polynomials with small integers, of degrees up to 6.
func polys(count int, f func(s *source, a api.Algebraic)) {
	s := source{Source: 101}
	for range count {
		var g []api.Rat
		for range 1 + s.Below(5) {
			g = append(g, rational.FromInt(int64(s.Below(9)-4)))
		}
		if s.Below(3) == 0 {
			g = polynomial.Mul(g, sample.Of([]string{"1 1", "0 1", "1 0 1", "2", "-1/2 1", "1 2 1"}[s.Below(6)]))
		}
		a := api.Algebraic{Root: s.Below(6) - 1}
		for _, c := range g {
			n, _, _ := integer.DivMod(c.Num, c.Den)
			a.Poly = append(a.Poly, n)
		}
		f(&s, a)
	}
}

// P10.1: Valid agrees with the definition: the coefficients and their divisors, the polynomial and its derivative, and the
// number of the real roots that Sturm's chain shows.
func TestValidDefinition(t *testing.T) {
	count := 0
	polys(8000, func(_ *source, a api.Algebraic) {
		f := poly(a)
		want := len(f) >= 2 && rational.Sign(f[len(f)-1]) > 0 && a.Root >= 0
		for divisor := int64(2); divisor <= 20; divisor++ {
			multiple := true
			for _, c := range f {
				_, rest, _ := integer.DivMod(c.Num, integer.FromInt(divisor))
				multiple = multiple && integer.Sign(rest) == 0
			}
			want = want && !multiple
		}
		if want {
			want = polynomial.Degree(polynomial.GCD(f, polynomial.Derivative(f))) == 0
			chain, bound := sturm.Chain(f), polynomial.Bound(f)
			want = want && a.Root < sturm.Changes(chain, rational.Neg(bound))-sturm.Changes(chain, bound)
		}
		if got := algebraic.Valid(a); got != want {
			t.Fatalf("P10.1: Valid(%s): %v", show(a), got)
		}
		if want {
			count++
		}
	})
	if count < 300 {
		t.Errorf("the samples have too few valid forms: %d", count)
	}
}

// P10.1: forms of a great degree, one of which has a double root.
func TestValidGreat(t *testing.T) {
	f := sample.Of("1")
	for k := range int64(40) {
		f = polynomial.Mul(f, []api.Rat{rational.FromInt(k - 20), rational.FromInt(1)})
	}
	for root, want := range map[int]bool{-1: false, 0: true, 20: true, 39: true, 40: false} {
		if got := algebraic.Valid(formOf(f, root)); got != want {
			t.Errorf("P10.1: Valid for root %d of 40: %v", root, got)
		}
	}
	if a := formOf(polynomial.Mul(f, sample.Of("7 1")), 0); algebraic.Valid(a) {
		t.Error("P10.1: Valid for a double root")
	}
}

// P10.1: Same compares all fields of the coefficients, and Root, also of forms that are not valid.
func TestSame(t *testing.T) {
	all := append(valid(), invalid()...)
	for j, a := range all {
		if !algebraic.Same(a, clone(a)) {
			t.Errorf("P10.1: Same(%v, %v) is false", a, a)
		}
		b := clone(a)
		b.Root++
		if algebraic.Same(a, b) || algebraic.Same(b, a) {
			t.Errorf("P10.1: Same(%v, %v)", a, b)
		}
		for _, b := range all[j+1:] {
			want := len(a.Poly) == len(b.Poly) && a.Root == b.Root
			for p := 0; want && p < len(a.Poly); p++ {
				want = sample.SameRat(api.Rat{Num: a.Poly[p]}, api.Rat{Num: b.Poly[p]})
			}
			if algebraic.Same(a, b) != want || algebraic.Same(b, a) != want {
				t.Errorf("P10.1: Same(%v, %v) is not %v", a, b, want)
			}
		}
	}
	for _, row := range []struct {
		a, b api.Algebraic
		want bool
	}{
		{api.Algebraic{}, api.Algebraic{Poly: []api.Int{}}, true},
		{api.Algebraic{Poly: []api.Int{{}}}, api.Algebraic{Poly: []api.Int{{Mag: []uint32{}}}}, true},
		{api.Algebraic{Poly: []api.Int{{}}}, api.Algebraic{Poly: []api.Int{{Neg: true}}}, false},
		{api.Algebraic{Poly: []api.Int{{}}}, api.Algebraic{Poly: []api.Int{{Mag: []uint32{0}}}}, false},
		{api.Algebraic{Poly: []api.Int{{}}}, api.Algebraic{}, false},
		{form("-2 0 1", 1), form("-2 0 1", 0), false},
		{form("-2 0 1", 1), form("2 -2 -1 1", 2), false},
		{form("-2 0 1", 7), form("-2 0 1", 7), true},
		{form("-4 0 2", 1), form("-2 0 1", 1), false},
		{form("-2 0 1 0", 1), form("-2 0 1", 1), false},
		{form("-3 4", 0), form("3 4", 0), false},
		{form("-3 4", 0), form("-3 18446744073709551620", 0), false},
	} {
		if algebraic.Same(row.a, row.b) != row.want || algebraic.Same(row.b, row.a) != row.want {
			t.Errorf("P10.1: Same(%v, %v) is not %v", row.a, row.b, row.want)
		}
	}
}
