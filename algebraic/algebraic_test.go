package algebraic_test

import (
	"testing"

	"setsquare/algebraic"
	"setsquare/api"
	"setsquare/integer"
	"setsquare/number"
	"setsquare/polynomial"
	"setsquare/rational"
	"setsquare/sample"
	"setsquare/specimen"
)

// expectForm checks the canonical form and the minimal polynomial of a number.
func expectForm(t *testing.T, a api.Number, want api.Algebraic) {
	t.Helper()
	if got := algebraic.Of(a); !algebraic.Same(got, want) {
		t.Fatalf("P10.1: Of(%.900s): %.900s, want %.900s", showNum(a), show(got), show(want))
	}
	f := algebraic.Minimal(a)
	if !sample.Same(polynomial.Scale(f, poly(want)[len(f)-1]), poly(want)) || !sample.SameRat(f[len(f)-1], rational.FromInt(1)) {
		t.Fatalf("P10.1: Minimal(%.900s): %.900s", showNum(a), showPoly(f))
	}
}

// P10.1: the examples of the chapter and of the document.
func TestExamples(t *testing.T) {
	nested := specimen.Must(number.Sqrt(specimen.Sum(number.FromInt(5), rootOf(24))))
	for _, row := range []struct {
		a    api.Number
		want string
	}{
		{rootOf(2), "algebraic [-2 0 1] 1"},
		{number.Neg(rootOf(2)), "algebraic [-2 0 1] 0"},
		{number.FromRat(rational.Frac(3, 4)), "algebraic [-3 4] 0"},
		{rootsOf(2, 3), "algebraic [1 0 -10 0 1] 3"},
		{nested, "algebraic [1 0 -10 0 1] 3"},
		{rootsOf(1, 2), "algebraic [-1 -2 1] 1"},
		{specimen.Must(number.Sqrt(rootsOf(9, 8))), "algebraic [-1 -2 1] 1"},
	} {
		if got := algebraic.Format(algebraic.Of(row.a)); got != row.want {
			t.Errorf("P10.1: the text of %s: %s, want %s", showNum(row.a), got, row.want)
		}
	}
	if algebraic.Cmp(form("-2 0 1", 1), form("2 -2 -1 1", 2)) != 0 {
		t.Error("P10.1: the forms algebraic [-2 0 1] 1 and algebraic [2 -2 -1 1] 2 have the same value")
	}
}

// P10.1: canonical forms of rational numbers, of numbers over towers with radicands that are not needed, or do not occur,
// and of numbers with conjugates that are not real.
func TestOfTable(t *testing.T) {
	for _, row := range []struct {
		radicands, coefs string
		poly             string
		root             int
	}{
		{"", "0", "0 1", 0},
		{"", "1", "-1 1", 0},
		{"", "-5/3", "5 3", 0},
		{"", "12345678901234567890123/7", "-12345678901234567890123 7", 0},
		{"2", "7 0", "-7 1", 0},
		{"2", "0 0", "0 1", 0},
		{"2, 3 0", "-1/2 0 0 0", "1 2", 0},
		{"2, 1 1, 5 0 0 0", "0 0 0 0 0 0 0 0", "0 1", 0},
		{"2", "0 1/2", "-1 0 2", 1},
		{"5", "1/2 1/2", "-1 -1 1", 1},
		{"5", "1/2 -1/2", "-1 -1 1", 0},
		{"3/4", "1/3 2", "-26 -6 9", 1},
		{"2/9", "0 -3", "-2 0 1", 0},
		{"2, 3 0", "0 1 0 0", "-2 0 1", 1},
		{"2, 3 0", "0 0 -1 0", "-3 0 1", 0},
		{"2, 3 0", "0 0 0 1", "-6 0 1", 1},
		{"2, 3 0", "1 0 0 -1", "-5 -2 1", 0},
		{"2, 3 0", "0 1 1 0", "1 0 -10 0 1", 3},
		{"2, 3 0", "0 -1 1 0", "1 0 -10 0 1", 2},
		{"2, 3 0", "0 1 -1 0", "1 0 -10 0 1", 1},
		{"2, 3 0", "0 -1 -1 0", "1 0 -10 0 1", 0},
		{"2, 1 1", "0 0 1 0", "-1 0 -2 0 1", 1},
		{"2, 1 1", "0 0 -1 0", "-1 0 -2 0 1", 0},
		{"2, 1 1", "0 1 0 0", "-2 0 1", 1},
		// Products of square roots that do not belong to the first field: sqrt(3 + sqrt 2) sqrt(3 - sqrt 2) is sqrt 7.
		{"2, 3 1, 3 -1 0 0", "0 0 0 0 0 0 1 0", "-7 0 1", 1},
		{"2, 3 1, 3 -1 0 0", "0 0 0 0 0 0 0 1", "-14 0 1", 1},
		{"2, 3 1, 3 -1 0 0", "0 0 1 0 1 0 0 0", "8 0 -12 0 1", 3},
		{"2, 3 1, 3 -1 0 0", "0 0 1 0 0 0 0 0", "7 0 -6 0 1", 3},
		{"2, 3 1, 3 -1 0 0", "0 0 0 0 -1 0 0 0", "7 0 -6 0 1", 1},
		{"7, 6 2, 2 0 0 0", "0 0 1/2 0 0 0 3/4 -1/4", "7 0 -6 0 1", 3},
		// sqrt 3 in the tower of sqrt 2, sqrt(1 + sqrt 2) and its product with sqrt 3: for the opposite sqrt 2, the other
		// square roots are not real.
		{"2, 1 1, 3 3 0 0", "0 0 0 0 0 0 -1 1", "-3 0 1", 1},
		{"2, 1 1, 3 3 0 0", "0 1 0 0 0 0 -1 1", "1 0 -10 0 1", 3},
		{"2, 1 1, 3 3 0 0", "0 -1 0 0 0 0 -1 1", "1 0 -10 0 1", 2},
		{"2, 1 1, 3 3 0 0", "0 -1 0 0 0 0 1 -1", "1 0 -10 0 1", 0},
		{"2, 3 0, 5 0 0 0", "0 1 1 0 1 0 0 0", "576 0 -960 0 352 0 -40 0 1", 7},
		{"2, 3 0, 5 0 0 0", "0 1 1 0 -1 0 0 0", "576 0 -960 0 352 0 -40 0 1", 4},
		{"2, 3 0, 5 0 0 0", "0 0 0 0 0 0 0 1", "-30 0 1", 1},
		{"2, 3 0, 5 0 0 0, 7 0 0 0 0 0 0 0", "0 0 0 0 0 0 0 0 0 0 0 0 0 0 0 1", "-210 0 1", 1},
	} {
		expectForm(t, numberOf(row.radicands, row.coefs), form(row.poly, row.root))
	}
}

// P10.1: canonical forms and minimal polynomials of numbers of all kinds.
func TestOf(t *testing.T) {
	degrees, unneeded := map[int]int{}, 0
	check := func(a api.Number) {
		f := minimal(a)
		expectForm(t, a, formOf(f, place(f, a)))
		degrees[polynomial.Degree(f)]++
		if polynomial.Degree(f) < 1<<number.Height(number.Trim(a)) {
			unneeded++
		}
	}
	specimen.Pairs(500, 3, func(s *source, a, b api.Number) {
		check(a)
		check(b)
		// The square of a number, and the part of it that belongs to the field of the square roots of the first radicands.
		check(specimen.Must(number.Mul(a, a)))
		check(api.Number{Radicands: a.Radicands, Coefs: append(sample.Clone(a.Coefs[:(len(a.Coefs)+1)/2]), sample.Zeros(len(a.Coefs)/2)...)})
	})
	if len(degrees) != 4 || min(degrees[1], degrees[2], degrees[4], degrees[8]) < 100 || unneeded < 20 {
		t.Errorf("the samples have too few cases: %v, %d", degrees, unneeded)
	}
}

// P10.1: the numbers of the roots of all conjugates.
func TestConjugates(t *testing.T) {
	s := source{Source: 103}
	for range 60 {
		radicands := [][]api.Rat{sample.Of("2"), sample.Of("3 0"), sample.Of("5 0 0 0")}
		a := api.Number{Radicands: radicands, Coefs: s.Element(8)}
		forms := map[string]int{}
		for signs := range 8 {
			b := specimen.Clone(a)
			for p, c := range b.Coefs {
				for i := range 3 {
					if p>>i&1 == 1 && signs>>i&1 == 1 {
						c = rational.Neg(c)
					}
				}
				b.Coefs[p] = c
			}
			f := algebraic.Of(b)
			forms[show(f)]++
			f.Root = 0
			if first := algebraic.Of(a); !algebraic.Same(f, api.Algebraic{Poly: first.Poly}) {
				t.Fatalf("P10.1: the polynomials of %s and %s", showNum(a), showNum(b))
			}
		}
		degree := len(algebraic.Of(a).Poly) - 1
		for _, count := range forms {
			if count*degree != 8 || len(forms) != degree {
				t.Fatalf("P10.1: the forms of the conjugates of %s: %v", showNum(a), forms)
			}
		}
	}
}

// P10.1: numbers with many radicands, also more than MaxHeight.
func TestOfHigh(t *testing.T) {
	primes := []int64{2, 3, 5, 7, 11, 13, 17, 19}
	a := rootsOf(primes...)
	got := algebraic.Of(a)
	switch {
	case len(got.Poly) != 257 || got.Root != 255:
		t.Errorf("P10.1: the sum of eight square roots: degree %d, root %d", len(got.Poly)-1, got.Root)
	case len(got.Poly[1].Mag) != 0 || integer.Format(got.Poly[254]) != "-9856" || integer.Format(got.Poly[256]) != "1":
		// The sum of the squares of all roots is 256 times that of the primes, 77; the coefficient is minus its half.
		t.Errorf("P10.1: the sum of eight square roots: %.300s", show(got))
	}
	expectForm(t, specimen.Must(number.Mul(a, specimen.Must(number.Div(number.FromInt(1), a)))), form("-1 1", 0))
	t9 := append(specimen.Clone(a).Radicands, append(sample.Of("23"), sample.Zeros(255)...))
	coefs := sample.Zeros(512)
	coefs[1], coefs[256] = rational.FromInt(1), rational.FromInt(-1)
	expectForm(t, api.Number{Radicands: t9, Coefs: coefs}, form("441 0 -50 0 1", 1))
	// The square root of 3 + sqrt(3 + sqrt(.. + sqrt 3)).
	chain := number.FromInt(0)
	for range 5 {
		chain = specimen.Must(number.Sqrt(specimen.Sum(number.FromInt(3), chain)))
	}
	f := sample.Of("0 1")
	for range 5 {
		f = polynomial.Sub(polynomial.Mul(f, f), sample.Of("3"))
	}
	expectForm(t, chain, formOf(f, place(f, chain)))
}
