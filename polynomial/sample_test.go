package polynomial_test

import (
	"math/big"
	"slices"
	"strings"
	"testing"

	"setsquare/api"
	"setsquare/integer"
	"setsquare/polynomial"
	"setsquare/rational"
)

// A source yields the same numbers in every run.
type source uint64

func (s *source) below(n int) int {
	*s = *s*6364136223846793005 + 1442695040888963407
	return int(uint64(*s>>32) % uint64(n))
}

// number returns a number: often 0, a small integer, a small quotient, or a long one.
func (s *source) number() api.Rat {
	switch s.below(5) {
	case 0:
		return rational.FromInt(int64(s.below(5) - 2))
	case 1:
		long := new(big.Rat).SetFrac(power(3, s.below(90)), power(7, s.below(60)))
		return normal(long.Mul(long, big.NewRat(int64(s.below(41)-20), int64(1+s.below(9)))))
	}
	return rational.Frac(int64(s.below(41)-20), int64(1+s.below(9)))
}

// some returns a polynomial of at most the given degree; every second one has integer coefficients only.
func (s *source) some(degree int) []api.Rat {
	a := make([]api.Rat, s.below(degree+2))
	whole := s.below(2) == 0
	for i := range a {
		a[i] = s.number()
		if whole {
			a[i] = rational.FromInt(int64(s.below(13) - 6))
		}
	}
	return written(polynomialOf(a))
}

// proper returns a polynomial that is not 0.
func (s *source) proper(degree int) []api.Rat {
	for {
		if a := s.some(degree); len(a) > 0 {
			return a
		}
	}
}

// power returns the power of a small number.
func power(base int64, exponent int) *big.Int {
	return new(big.Int).Exp(big.NewInt(base), big.NewInt(int64(exponent)), nil)
}

// whole returns the value of an integer.
func whole(a api.Int) *big.Int {
	n, _ := new(big.Int).SetString(integer.Format(a), 10)
	return n
}

// words returns the normal form of an integer.
func words(n *big.Int) api.Int {
	var mag []uint32
	for rest := new(big.Int).Abs(n); rest.Sign() > 0; rest.Rsh(rest, 32) {
		mag = append(mag, uint32(rest.Uint64()))
	}
	return api.Int{Neg: n.Sign() < 0, Mag: mag}
}

// value returns the value of a number.
func value(a api.Rat) *big.Rat { return new(big.Rat).SetFrac(whole(a.Num), whole(a.Den)) }

// normal returns the normal form of a number.
func normal(q *big.Rat) api.Rat { return api.Rat{Num: words(q.Num()), Den: words(q.Denom())} }

// written returns the normal form of a polynomial.
func written(a poly) []api.Rat {
	result := []api.Rat{}
	for _, c := range a.cut() {
		result = append(result, normal(c))
	}
	return result
}

// of returns the polynomial of a text: its coefficients, the constant first.
func of(text string) []api.Rat {
	a := []api.Rat{}
	for _, word := range strings.Fields(text) {
		q, ok := new(big.Rat).SetString(word)
		if !ok {
			panic(text)
		}
		a = append(a, normal(q))
	}
	return a
}

// show returns a polynomial as a text.
func show(a []api.Rat) string {
	var words []string
	for _, c := range a {
		words = append(words, rational.Format(c))
	}
	return "[" + strings.Join(words, " ") + "]"
}

// loose returns a polynomial with zeros at the end.
func loose(a []api.Rat) []api.Rat {
	return append(slices.Clone(a), rational.FromInt(0), rational.FromInt(0))
}

func sameInt(a, b api.Int) bool { return a.Neg == b.Neg && slices.Equal(a.Mag, b.Mag) }

func sameRat(a, b api.Rat) bool { return sameInt(a.Num, b.Num) && sameInt(a.Den, b.Den) }

// same reports whether two polynomials have the same form.
func same(a, b []api.Rat) bool { return slices.EqualFunc(a, b, sameRat) }

// expect checks that a result is the normal form of a polynomial.
func expect(t *testing.T, what string, got []api.Rat, want poly) {
	t.Helper()
	if !same(got, written(want)) {
		t.Fatalf("%s: got %.400s, want %.400s", what, show(got), show(written(want)))
	}
}

// expectNumber checks that a result is the normal form of a number.
func expectNumber(t *testing.T, what string, got api.Rat, want *big.Rat) {
	t.Helper()
	if !sameRat(got, normal(want)) {
		t.Fatalf("%s: got %v, want %.200s", what, got, want.RatString())
	}
}

// pairs calls a function with many pairs of polynomials, in normal form and with zeros at the end. Among them are all
// pairs of some short ones: 0, constants, and multiples and divisors of one another.
func pairs(f func(a, b []api.Rat)) {
	var short [][]api.Rat
	for _, text := range []string{"", "1", "-1", "2/3", "0 1", "1 1", "-1 1", "2 2", "-1/2 -1/2", "-1 0 1", "0 0 3", "1 2 1", "1/3 0 0 -1/3", "0 0 0 0 5"} {
		short = append(short, of(text))
	}
	for _, a := range short {
		for _, b := range short {
			f(a, b)
			f(loose(a), b)
			f(a, loose(b))
			f(loose(a), loose(b))
		}
	}
	s := source(1)
	for i := range 1200 {
		a, b := s.some(6), s.some(5)
		switch i % 4 {
		case 0:
			a = loose(a)
		case 1:
			b = loose(b)
		case 2:
			// Sums lose their leading coefficients.
			b = written(polynomialOf(a).times(constant(-1)).plus(polynomialOf(s.some(2))))
		}
		f(a, b)
	}
}

// zeros are the forms of the polynomial 0.
func zeros() [][]api.Rat { return [][]api.Rat{nil, {}, of("0"), of("0 0 0")} }

// degree returns the degree of a result, which is in normal form.
func degree(t *testing.T, a []api.Rat) int {
	t.Helper()
	for _, c := range a {
		if !rational.Valid(c) {
			t.Fatalf("P4.1: a coefficient is not in normal form: %v", c)
		}
	}
	if len(a) > 0 && rational.Sign(a[len(a)-1]) == 0 || polynomial.Degree(a) != len(a)-1 {
		t.Fatalf("P4.1: not in normal form: %s", show(a))
	}
	return len(a) - 1
}
