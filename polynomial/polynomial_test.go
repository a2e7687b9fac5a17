package polynomial_test

import (
	"math/big"
	"testing"

	"setsquare/api"
	"setsquare/integer"
	"setsquare/polynomial"
	"setsquare/rational"
)

// P4.1: the normal form has no zeros at the end, but keeps the other ones; 0 is the empty list, with the degree -1.
func TestTrim(t *testing.T) {
	for _, zero := range zeros() {
		if got := polynomial.Trim(zero); len(got) != 0 || polynomial.Degree(zero) != -1 {
			t.Errorf("P4.1: Trim(%s): got %s, degree %d", show(zero), show(got), polynomial.Degree(zero))
		}
	}
	for _, x := range []struct {
		text, want string
		degree     int
	}{{"5", "5", 0}, {"-1/2 0 0", "-1/2", 0}, {"0 1", "0 1", 1}, {"0 0 -3", "0 0 -3", 2}, {"1 0 2/7 0 0 0", "1 0 2/7", 2}, {"0 1 0 1 0", "0 1 0 1", 3}} {
		if got := polynomial.Trim(of(x.text)); !same(got, of(x.want)) {
			t.Errorf("P4.1: Trim(%s): got %s", x.text, show(got))
		}
		if got := polynomial.Degree(of(x.text)); got != x.degree {
			t.Errorf("P4.1: Degree(%s): got %d", x.text, got)
		}
	}
	pairs(func(a, b []api.Rat) {
		expect(t, "P4.1: Trim", polynomial.Trim(a), polynomialOf(a))
		if got, want := polynomial.Degree(a), len(polynomialOf(a))-1; got != want {
			t.Fatalf("P4.1: Degree(%s): got %d", show(a), got)
		}
	})
}

// P4.1: sums, differences and products, also if leading coefficients vanish.
func TestArithmetic(t *testing.T) {
	pairs(func(a, b []api.Rat) {
		x, y := polynomialOf(a), polynomialOf(b)
		expect(t, "P4.1: Add", polynomial.Add(a, b), x.plus(y))
		expect(t, "P4.1: Sub", polynomial.Sub(a, b), x.minus(y))
		expect(t, "P4.1: Mul", polynomial.Mul(a, b), x.times(y))
		expect(t, "P4.1: Sub", polynomial.Sub(a, a), nil)
		expect(t, "P4.1: Add", polynomial.Add(a, polynomial.Sub(nil, a)), nil)
	})
}

// P4.1: products with numbers, also with 0, and derivatives.
func TestScale(t *testing.T) {
	s := source(2)
	pairs(func(a, b []api.Rat) {
		n := s.number()
		expect(t, "P4.1: Scale", polynomial.Scale(a, n), polynomialOf(a).times(poly{value(n)}.cut()))
		expect(t, "P4.1: Scale by 0", polynomial.Scale(a, rational.FromInt(0)), nil)
		expect(t, "P4.1: Derivative", polynomial.Derivative(a), polynomialOf(a).derivative())
	})
	for text, want := range map[string]string{"": "", "0": "", "7": "", "7 0": "", "1 2": "2", "1 2 3": "2 6", "0 0 0 1/2 0": "0 0 3/2"} {
		if got := polynomial.Derivative(of(text)); !same(got, of(want)) {
			t.Errorf("P4.1: Derivative(%s): got %s", text, show(got))
		}
	}
}

// P4.1: values, which are 0 for the polynomial 0, and the constant at 0.
func TestEval(t *testing.T) {
	s := source(3)
	pairs(func(a, b []api.Rat) {
		x := s.number()
		expectNumber(t, "P4.1: Eval", polynomial.Eval(a, x), polynomialOf(a).at(value(x)))
		expectNumber(t, "P4.1: Eval at 0", polynomial.Eval(a, rational.FromInt(0)), polynomialOf(a).coef(0))
	})
	for _, zero := range zeros() {
		expectNumber(t, "P4.1: Eval of 0", polynomial.Eval(zero, rational.Frac(2, 3)), new(big.Rat))
	}
	expectNumber(t, "P4.1: Eval at a root", polynomial.Eval(of("-1 3/2"), rational.Frac(2, 3)), new(big.Rat))
}

// P4.1: compositions, also with constants and 0 on both sides.
func TestCompose(t *testing.T) {
	pairs(func(a, b []api.Rat) {
		expect(t, "P4.1: Compose", polynomial.Compose(a, b), polynomialOf(a).of(polynomialOf(b)))
	})
	for _, x := range []struct{ a, b, want string }{
		{"0 0 1", "1 1", "1 2 1"}, {"", "1 1", ""}, {"0 0", "1 1", ""}, {"5", "", "5"}, {"5", "1 1", "5"}, {"5 1 1", "", "5"}, {"5 1 1", "0 0", "5"}, {"-1 0 1", "1", ""},
		{"0 1", "1/2 3", "1/2 3"}, {"1/2 3", "0 1", "1/2 3"}, {"1 1/2", "1/3 1/5", "7/6 1/10"},
	} {
		if got := polynomial.Compose(of(x.a), of(x.b)); !same(got, of(x.want)) {
			t.Errorf("P4.1: Compose(%s, %s): got %s", x.a, x.b, show(got))
		}
	}
}

// P4.1: the coefficients of Primitive are coprime integers, the last one is positive, and it is a multiple.
func TestPrimitive(t *testing.T) {
	pairs(func(a, b []api.Rat) {
		got, x := polynomial.Primitive(a), polynomialOf(a)
		if len(got) != len(x) {
			t.Fatalf("P4.1: Primitive(%s): got %v", show(a), got)
		}
		if len(x) == 0 {
			return
		}
		common := new(big.Int)
		last, lead := whole(got[len(got)-1]), x[len(x)-1]
		for i, n := range got {
			common.GCD(nil, nil, common, new(big.Int).Abs(whole(n)))
			left, right := new(big.Rat).Mul(x[i], new(big.Rat).SetInt(last)), new(big.Rat).Mul(lead, new(big.Rat).SetInt(whole(n)))
			if !integer.Valid(n) || left.Cmp(right) != 0 {
				t.Fatalf("P4.1: Primitive(%s): got %v", show(a), got)
			}
		}
		if common.Cmp(big.NewInt(1)) != 0 || last.Sign() <= 0 {
			t.Fatalf("P4.1: Primitive(%s): got %v", show(a), got)
		}
	})
	for text, want := range map[string][]int64{"": {}, "0": {}, "0 0": {}, "5": {1}, "-5": {1}, "-2/3": {1}, "-1/3 1/2": {-2, 3}, "0 -1": {0, 1}, "1/3 -1/2 0": {-2, 3}, "4 0 -6": {-2, 0, 3}, "4/9 0 6/5": {10, 0, 27}} {
		got := polynomial.Primitive(of(text))
		for i := 0; i < len(want) && len(got) == len(want); i++ {
			if !sameInt(got[i], integer.FromInt(want[i])) {
				t.Errorf("P4.1: Primitive(%s): got %v", text, got)
			}
		}
		if len(got) != len(want) {
			t.Errorf("P4.1: Primitive(%s): got %v", text, got)
		}
	}
}

// P4.1: 1 plus a quotient of absolute values; 0 for constants.
func TestBound(t *testing.T) {
	pairs(func(a, b []api.Rat) {
		x := polynomialOf(a)
		want := new(big.Rat)
		for i := range max(0, len(x)-1) {
			size := new(big.Rat).Abs(x[i])
			size.Quo(size, x[len(x)-1]).Abs(size).Add(size, big.NewRat(1, 1))
			if size.Cmp(want) > 0 {
				want = size
			}
		}
		expectNumber(t, "P4.1: Bound", polynomial.Bound(a), want)
	})
	for text, want := range map[string]string{"": "0", "0 0": "0", "7": "0", "-7 0": "0", "1 -3 2": "5/2", "1 3 -2 0": "5/2", "0 1": "1", "0 0 -3": "1", "-8 1 1": "9", "1/2 -1/3 -1/4": "3"} {
		if got := polynomial.Bound(of(text)); rational.Format(got) != want {
			t.Errorf("P4.1: Bound(%s): got %v", text, got)
		}
	}
}

// P4.1: roots have absolute values less than the bound.
func TestBoundOfRoots(t *testing.T) {
	s := source(4)
	for range 400 {
		product := poly{value(s.number())}.cut().plus(constant(50))
		var roots []*big.Rat
		for range 1 + s.below(5) {
			root := value(s.number())
			roots = append(roots, root)
			product = product.times(poly{new(big.Rat).Neg(root), big.NewRat(1, 1)})
		}
		bound := value(polynomial.Bound(written(product)))
		for _, root := range roots {
			if len(product) > 0 && new(big.Rat).Abs(root).Cmp(bound) >= 0 {
				t.Fatalf("P4.1: Bound(%s): %s, with the root %s", show(written(product)), bound.RatString(), root.RatString())
			}
		}
	}
}

// P4.1: the examples of the chapter that no other test contains.
func TestExamples(t *testing.T) {
	quotient, rest, e := polynomial.DivMod(of("-1 0 1"), of("2 2"))
	if e != api.OK || !same(quotient, of("-1/2 1/2")) || len(rest) != 0 {
		t.Errorf("P4.1: DivMod: got %s, %s, %v", show(quotient), show(rest), e)
	}
	if got := polynomial.Squarefree(of("0 2 -4 2")); !same(got, of("0 -1 1")) {
		t.Errorf("P4.1: Squarefree: got %s", show(got))
	}
}
