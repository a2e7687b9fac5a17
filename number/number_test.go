package number_test

import (
	"math"
	"math/big"
	"testing"

	"setsquare/api"
	"setsquare/number"
	"setsquare/rational"
	"setsquare/sample"
)

// expect checks that a result is a valid number with some value.
func expect(t *testing.T, call string, got api.Number, e api.Errno, want *big.Float) {
	t.Helper()
	if e != api.OK || !number.Valid(got) || !near(value(got), want) {
		t.Fatalf("P9.1: %.900s: got %.900s, %v", call, show(got), e)
	}
}

// expectError checks that a result is an error, and nothing else.
func expectError(t *testing.T, call string, got api.Number, e, want api.Errno) {
	t.Helper()
	if e != want || !none(got) {
		t.Fatalf("P9.1: %.900s: got %.900s, %v, want %v", call, show(got), e, want)
	}
}

// expectSame checks that two numbers with the same value are found to be equal.
func expectSame(t *testing.T, call string, got, want api.Number) {
	t.Helper()
	if !number.Equal(got, want) || !number.Equal(want, got) || !near(value(got), value(want)) {
		t.Fatalf("P9.1: %.900s: got %.900s, want %.900s", call, show(got), show(want))
	}
}

// P9.1: the examples of the chapter.
func TestExamples(t *testing.T) {
	half := number.FromRat(rational.Frac(1, 2))
	expectSame(t, "sqrt 2 / sqrt 8", must(number.Div(rootOf(2), rootOf(8))), half)
	four, ok := number.Rational(must(number.Mul(rootOf(2), rootOf(8))))
	if !ok || !sample.SameRat(four, rational.FromInt(4)) {
		t.Errorf("P9.1: sqrt 2 sqrt 8: %v, %v", four, ok)
	}
	expectSame(t, "sqrt(5 + 2 sqrt 6)", must(number.Sqrt(total(whole(5), rootOf(6), rootOf(6)))), rootsOf(2, 3))
	golden := must(number.Mul(total(whole(1), rootOf(5)), half))
	low, e := number.Cmp(golden, number.FromRat(rational.Frac(1618, 1000)))
	high, f := number.Cmp(golden, number.FromRat(rational.Frac(1619, 1000)))
	if low != 1 || high != -1 || e != api.OK || f != api.OK {
		t.Errorf("P9.1: (1 + sqrt 5) / 2: %d, %v, %d, %v", low, e, high, f)
	}
	expectSame(t, "sqrt(3 + 2 sqrt 2)", must(number.Sqrt(total(whole(3), rootOf(2), rootOf(2)))), total(whole(1), rootOf(2)))
	if a := total(whole(1), rootOf(2)); !identical(a, numberOf("2", "1 1")) {
		t.Errorf("P9.1: 1 + sqrt 2: %s", show(a))
	}
}

// P9.1: rational numbers have no radicands.
func TestFromRationals(t *testing.T) {
	for _, n := range []int64{0, 1, -1, 7, math.MaxInt32, 1 << 32, math.MaxInt64, math.MinInt64} {
		if a := number.FromInt(n); len(a.Radicands) != 0 || !same(a.Coefs, []api.Rat{rational.FromInt(n)}) {
			t.Errorf("P9.1: FromInt(%d): %s", n, show(a))
		}
	}
	s := source{Source: 92}
	for range 300 {
		c := s.Number()
		a := number.FromRat(c)
		if len(a.Radicands) != 0 || !same(a.Coefs, []api.Rat{c}) || !number.Valid(a) {
			t.Fatalf("P9.1: FromRat(%v): %s", c, show(a))
		}
		if b, ok := number.Rational(a); !ok || !sample.SameRat(b, c) {
			t.Fatalf("P9.1: Rational(FromRat(%v)): %v, %v", c, b, ok)
		}
	}
}

// P9.1: values can be rational although there are radicands.
func TestRational(t *testing.T) {
	for _, row := range []struct {
		a    api.Number
		want string
	}{
		{numberOf("", "0"), "0"},
		{numberOf("", "-7/3"), "-7/3"},
		{numberOf("2", "5 0"), "5"},
		{numberOf("2", "0 0"), "0"},
		{numberOf("2", "5 1"), ""},
		{numberOf("2", "0 -1/9"), ""},
		{numberOf("2, 1 1", "1/2 0 0 0"), "1/2"},
		{numberOf("2, 1 1", "1/2 0 0 1"), ""},
		{numberOf("2, 1 1", "0 0 1 0"), ""},
		{numberOf("2, 1 1", "0 1 0 0"), ""},
		{must(number.Sub(rootOf(8), total(rootOf(2), rootOf(2)))), "0"},
		{must(number.Mul(rootOf(6), must(number.Mul(rootOf(2), rootOf(3))))), "6"},
		{total(rootOf(2), rootOf(3)), ""},
	} {
		got, ok := number.Rational(row.a)
		if ok != (row.want != "") || ok && rational.Format(got) != row.want || !ok && !sample.SameRat(got, api.Rat{}) {
			t.Errorf("P9.1: Rational(%s): %v, %v, want %q", show(row.a), got, ok, row.want)
		}
	}
}

// P9.1: numbers are valid if their towers are reduced, and their coefficients formed.
func TestValid(t *testing.T) {
	for _, row := range []struct {
		radicands, coefs string
		want             bool
	}{
		{"", "5", true},
		{"", "-1/2", true},
		{"", "", false},
		{"", "1 2", false},
		{"2", "1 2", true},
		{"2", "0 0", true},
		{"2", "1", false},
		{"2", "1 2 3", false},
		{"2", "1 2 3 4", false},
		{"4", "1 2", false},
		{"4/9", "1 2", false},
		{"0", "1 2", false},
		{"-2", "1 2", false},
		{"2 0", "1 2", false},
		{"2, 3 0", "1 2 3 4", true},
		{"2, 8 0", "1 2 3 4", false},
		{"8, 2 0", "1 2 3 4", false},
		{"2, 1 1", "1 2 3 4", true},
		{"2, 1 -1", "1 2 3 4", false},
		{"2, 3 2", "1 2 3 4", false},
		{"2, 3 1", "1 2 3 4", true},
		{"2, 3", "1 2 3 4", false},
		{"6, 5 2", "1 2 3 4", true},
		{"2, 3 0, 6 0 0 0", "1 2 3 4 5 6 7 8", false},
		{"2, 3 0, 5 0 0 2", "1 2 3 4 5 6 7 8", false},
		{"2, 3 0, 5 0 0 1", "1 2 3 4 5 6 7 8", true},
		{"2, 3 0, 0 1 0 0", "1 2 3 4 5 6 7 8", true},
	} {
		a := numberOf(row.radicands, row.coefs)
		if got := number.Valid(a); got != row.want {
			t.Errorf("P9.1: Valid([%s], [%s]): %v", row.radicands, row.coefs, got)
		}
	}
	if number.Valid(api.Number{}) || number.Valid(api.Number{Radicands: [][]api.Rat{{}}}) {
		t.Error("P9.1: Valid for the zero value")
	}
	pairs(300, 3, func(s *source, a, b api.Number) {
		if !number.Valid(a) || !number.Valid(b) {
			t.Fatalf("P9.1: Valid(%.900s), Valid(%.900s)", show(a), show(b))
		}
		for _, coefs := range sample.OtherLists(a.Coefs) {
			if number.Valid(api.Number{Radicands: a.Radicands, Coefs: coefs}) {
				t.Fatalf("P9.1: Valid with the coefficients %v", coefs)
			}
		}
	})
	for _, a := range []api.Number{numberOf("2", "1 3"), numberOf("2, 1 1", "1 2 3 4")} {
		for _, radicands := range sample.OtherTowers(a.Radicands) {
			if number.Valid(api.Number{Radicands: radicands, Coefs: a.Coefs}) {
				t.Fatalf("P9.1: Valid with the radicands %v", radicands)
			}
		}
	}
}

// P9.1: sums, differences, products, quotients and opposite numbers have the right values, and are not higher than the
// list of the arguments.
func TestArithmetic(t *testing.T) {
	joined := map[int]int{}
	pairs(1500, 3, func(s *source, a, b api.Number) {
		x, y := value(a), value(b)
		both := "of " + show(a) + " and " + show(b)
		most := height(a, b)
		joined[len(a.Radicands)+len(b.Radicands)-most]++
		check := func(name string, got api.Number, e api.Errno, want *big.Float) {
			t.Helper()
			expect(t, name+" "+both, got, e, want)
			if number.Height(got) > most {
				t.Fatalf("P9.1: %s %.900s: too many radicands: %.900s", name, both, show(got))
			}
		}
		result := func() *big.Float { return new(big.Float).SetPrec(precision) }
		c, e := number.Add(a, b)
		check("Add", c, e, result().Add(x, y))
		c, e = number.Sub(a, b)
		check("Sub", c, e, result().Sub(x, y))
		c, e = number.Mul(a, b)
		check("Mul", c, e, result().Mul(x, y))
		c = number.Neg(a)
		expect(t, "Neg of "+show(a), c, api.OK, result().Neg(x))
		if number.Height(c) > number.Height(a) {
			t.Fatalf("P9.1: Neg of %.900s: too many radicands: %.900s", show(a), show(c))
		}
		c, e = number.Div(a, b)
		if number.Sign(b) == 0 {
			expectError(t, "Div "+both, c, e, api.ErrZero)
		} else {
			check("Div", c, e, result().Quo(x, y))
		}
	})
	for k := range 3 {
		if joined[k] < 50 {
			t.Errorf("the samples have too few cases: %v", joined)
		}
	}
}

// P9.1: numbers without radicands, and with one.
func TestArithmeticTable(t *testing.T) {
	s := rootOf(2)
	zero, one, half := whole(0), whole(1), number.FromRat(rational.Frac(1, 2))
	for k, row := range []struct {
		got  api.Number
		want api.Number
	}{
		{total(one, half), number.FromRat(rational.Frac(3, 2))},
		{must(number.Sub(half, one)), number.FromRat(rational.Frac(-1, 2))},
		{must(number.Mul(half, half)), number.FromRat(rational.Frac(1, 4))},
		{must(number.Div(one, half)), whole(2)},
		{must(number.Div(zero, half)), zero},
		{number.Neg(zero), zero},
		{number.Neg(half), number.FromRat(rational.Frac(-1, 2))},
		{must(number.Mul(s, s)), whole(2)},
		{must(number.Sub(s, s)), zero},
		{must(number.Div(s, s)), one},
		{must(number.Mul(zero, s)), zero},
		{must(number.Div(zero, s)), zero},
		{must(number.Div(whole(2), s)), s},
		{must(number.Div(one, must(number.Sub(s, one)))), total(s, one)},
		{must(number.Mul(rootOf(3), rootOf(12))), whole(6)},
		{must(number.Mul(rootOf(6), rootOf(10))), must(number.Mul(whole(2), rootOf(15)))},
	} {
		expectSame(t, "row", row.got, row.want)
		if len(row.want.Radicands) == 0 && !number.Equal(row.got, row.want) {
			t.Errorf("P9.1: row %d: got %s, want %s", k, show(row.got), show(row.want))
		}
	}
}

// P9.1: there is no quotient by 0, however it is written.
func TestDivisionByZero(t *testing.T) {
	for _, zero := range []api.Number{whole(0), numberOf("2", "0 0"), numberOf("2, 1 1", "0 0 0 0"), must(number.Sub(rootOf(8), total(rootOf(2), rootOf(2))))} {
		for _, a := range []api.Number{whole(0), whole(5), rootOf(2), rootOf(3), zero} {
			got, e := number.Div(a, zero)
			expectError(t, "Div("+show(a)+", "+show(zero)+")", got, e, api.ErrZero)
		}
	}
}

// P9.1: square roots are not negative, and are found in the tower if they belong to it.
func TestSqrt(t *testing.T) {
	pairs(600, 3, func(s *source, a, b api.Number) {
		square := must(number.Mul(a, a))
		w, e := number.Sqrt(square)
		want := value(a)
		expect(t, "Sqrt("+show(square)+")", w, e, want.Abs(want))
		if len(w.Radicands) > len(a.Radicands) {
			t.Fatalf("P9.1: Sqrt(%.900s): a radicand was added: %.900s", show(square), show(w))
		}
		if number.Sign(b) < 0 {
			got, e := number.Sqrt(b)
			expectError(t, "Sqrt("+show(b)+")", got, e, api.ErrNegative)
			b = number.Neg(b)
		}
		w, e = number.Sqrt(b)
		expect(t, "Sqrt("+show(b)+")", w, e, new(big.Float).SetPrec(precision).Sqrt(value(b)))
		if len(w.Radicands) > len(b.Radicands)+1 {
			t.Fatalf("P9.1: Sqrt(%.900s): too many radicands: %.900s", show(b), show(w))
		}
	})
}

// P9.1: square roots of particular numbers.
func TestSqrtTable(t *testing.T) {
	third := number.FromRat(rational.Frac(1, 3))
	for k, row := range []struct{ a, want api.Number }{
		{whole(0), whole(0)},
		{numberOf("2", "0 0"), whole(0)},
		{whole(1), whole(1)},
		{number.FromRat(rational.Frac(4, 9)), number.FromRat(rational.Frac(2, 3))},
		{numberOf("2", "9 0"), whole(3)},
		{numberOf("2", "8 0"), total(rootOf(2), rootOf(2))},
		{numberOf("2", "3 -2"), numberOf("2", "-1 1")},
		{numberOf("2", "3 0"), rootOf(3)},
		{third, must(number.Mul(third, rootOf(3)))},
		{numberOf("2, 3 0", "6 0 0 0"), rootOf(6)},
		{numberOf("2, 3 0", "5 0 0 2"), rootsOf(2, 3)},
		{must(number.Sub(whole(2), rootOf(3))), must(number.Div(must(number.Sub(rootOf(6), rootOf(2))), whole(2)))},
	} {
		w, e := number.Sqrt(row.a)
		if e != api.OK || !number.Valid(w) || !number.Equal(w, row.want) {
			t.Errorf("P9.1: row %d: Sqrt(%s): got %s, %v", k, show(row.a), show(w), e)
		}
	}
	for _, a := range []api.Number{whole(-1), whole(-4), numberOf("2", "-2 0"), numberOf("2", "1 -1"), must(number.Sub(rootOf(2), rootOf(3)))} {
		w, e := number.Sqrt(a)
		expectError(t, "Sqrt("+show(a)+")", w, e, api.ErrNegative)
	}
}
