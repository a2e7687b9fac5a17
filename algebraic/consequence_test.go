package algebraic_test

import (
	"slices"
	"testing"

	"setsquare/algebraic"
	"setsquare/api"
	"setsquare/number"
	"setsquare/polynomial"
	"setsquare/rational"
	"setsquare/sample"
	"setsquare/specimen"
	"setsquare/tower"
)

// P10.2: two numbers are equal exactly if their canonical forms are, whatever their towers are.
func TestEqualForms(t *testing.T) {
	equal, different := 0, 0
	specimen.Pairs(500, 3, func(s *source, a, b api.Number) {
		if s.Below(3) == 0 {
			b = s.Variant(a, 4)
		}
		f, g := algebraic.Of(a), algebraic.Of(b)
		want := number.Equal(a, b)
		if algebraic.Same(f, g) != want || (algebraic.Cmp(f, g) == 0) != want || (algebraic.Format(f) == algebraic.Format(g)) != want {
			t.Fatalf("P10.2: the forms of %.600s and %.600s: %.600s and %.600s", showNum(a), showNum(b), show(f), show(g))
		}
		if !want {
			different++
		} else if len(a.Radicands) > 0 {
			equal++
		}
	})
	if min(equal, different) < 100 {
		t.Errorf("the samples have too few cases: %d and %d", equal, different)
	}
}

// P10.2: the same number as different sums, products and square roots.
func TestEqualNumbers(t *testing.T) {
	times := func(a, b api.Number) api.Number { return specimen.Must(number.Mul(a, b)) }
	sqrt := func(a api.Number) api.Number { return specimen.Must(number.Sqrt(a)) }
	golden := times(number.FromRat(rational.Frac(1, 2)), rootsOf(1, 5))
	for _, row := range []struct{ a, b api.Number }{
		{rootOf(8), specimen.Sum(rootOf(2), rootOf(2))},
		{rootOf(6), times(rootOf(2), rootOf(3))},
		{sqrt(rootsOf(25, 24)), rootsOf(2, 3)},
		{sqrt(rootsOf(9, 8)), rootsOf(1, 2)},
		{sqrt(specimen.Sum(number.FromInt(1), golden)), golden},
		{times(rootsOf(2, 3, 5), rootsOf(2, 3, 5)), specimen.Sum(number.FromInt(10), rootsOf(24, 40, 60))},
		{times(sqrt(rootsOf(9, 2)), sqrt(specimen.Sum(number.FromInt(3), number.Neg(rootOf(2))))), rootOf(7)},
		{specimen.Must(number.Div(number.FromInt(1), rootsOf(2, 3))), specimen.Sum(rootOf(3), number.Neg(rootOf(2)))},
		{rootsOf(2, 3, 5, 7), rootsOf(7, 5, 3, 2)},
	} {
		f, g := algebraic.Of(row.a), algebraic.Of(row.b)
		if !algebraic.Same(f, g) || !algebraic.Valid(f) {
			t.Errorf("P10.2: the forms of %s and %s: %s and %s", showNum(row.a), showNum(row.b), show(f), show(g))
		}
		if opposite := algebraic.Of(number.Neg(row.a)); algebraic.Same(f, opposite) || algebraic.Cmp(f, opposite) != 1 {
			t.Errorf("P10.2: the forms of %s and its opposite: %s and %s", showNum(row.a), show(f), show(opposite))
		}
	}
}

// P10.2: the degree of the minimal polynomial is a power of 2, and it divides exactly those polynomials that have the
// number as a root.
func TestMinimal(t *testing.T) {
	roots := 0
	specimen.Pairs(300, 3, func(s *source, a, b api.Number) {
		f := algebraic.Minimal(a)
		if d := polynomial.Degree(f); d < 1 || d&(d-1) != 0 || d > 1<<len(a.Radicands) {
			t.Fatalf("P10.2: the degree of the minimal polynomial of %.600s: %d", showNum(a), d)
		}
		if !tower.Zero(valueAt(f, a)) {
			t.Fatalf("P10.2: %.600s is not a root of its minimal polynomial %.600s", showNum(a), showPoly(f))
		}
		g := algebraic.Minimal(b)
		for _, h := range [][]api.Rat{g, polynomial.Mul(g, f), polynomial.Add(g, f), polynomial.Mul(polynomial.Add(f, g), polynomial.Derivative(f)), polynomial.Mul(f, f), characteristic(a), {s.Number(), s.Number()}, nil} {
			_, rest, _ := polynomial.DivMod(h, f)
			isRoot := tower.Zero(valueAt(h, a))
			if isRoot != (len(rest) == 0) {
				t.Fatalf("P10.2: %.600s is a root of %.600s, or its minimal polynomial divides this", showNum(a), showPoly(h))
			}
			if isRoot {
				roots++
			}
		}
		// It has no multiple root, and the product of all X minus a conjugate of the number is a power of it.
		power := []api.Rat{rational.FromInt(1)}
		for range len(a.Coefs) / polynomial.Degree(f) {
			power = polynomial.Mul(power, f)
		}
		if !sample.Same(polynomial.Squarefree(f), f) || !sample.Same(power, characteristic(a)) {
			t.Fatalf("P10.2: the minimal polynomial of %.600s is not irreducible: %.600s", showNum(a), showPoly(f))
		}
	})
	if roots < 600 {
		t.Errorf("the samples have too few roots: %d", roots)
	}
}

// characteristic returns the product of all X minus a conjugate of the number, one for each choice of the signs of the
// square roots. Its coefficients follow from the sums of the powers of the conjugates (Newton's identities), which are
// multiples of the first coefficients of the powers of the number.
func characteristic(a api.Number) []api.Rat {
	degree := len(a.Coefs)
	power := tower.FromRat(a.Radicands, rational.FromInt(1))
	f := []api.Rat{rational.FromInt(1)}
	var sums []api.Rat
	for k := 1; k <= degree; k++ {
		power = tower.Mul(a.Radicands, power, a.Coefs)
		sums = append(sums, rational.Mul(rational.FromInt(int64(degree)), power[0]))
		sum := rational.FromInt(0)
		for i, c := range f {
			sum = rational.Add(sum, rational.Mul(c, sums[k-1-i]))
		}
		f = append(f, rational.Mul(sum, rational.Frac(-1, int64(k))))
	}
	slices.Reverse(f)
	return f
}
