package polynomial_test

import (
	"math/big"
	"slices"
	"testing"

	"setsquare/api"
	"setsquare/polynomial"
)

// P4.1: greatest common divisors, also of multiples of a polynomial.
func TestGCD(t *testing.T) {
	s := source(6)
	pairs(func(a, b []api.Rat) {
		x, y := polynomialOf(a), polynomialOf(b)
		expect(t, "P4.1: GCD", polynomial.GCD(a, b), x.common(y))
		x, y = x.times(binomial(3)), y.times(binomial(3))
		expect(t, "P4.1: GCD", polynomial.GCD(written(x), loose(written(y))), x.common(y))
		factor := polynomialOf(s.some(4))
		x, y = x.times(factor), y.times(factor)
		expect(t, "P4.1: GCD of multiples", polynomial.GCD(written(x), written(y)), x.common(y))
	})
}

// P4.1: arguments 0, constants, equal polynomials, and divisors.
func TestGCDRows(t *testing.T) {
	for _, x := range []struct{ a, b, want string }{
		{"", "", ""}, {"0", "0 0", ""}, {"", "2/3", "1"}, {"0 0", "-4 2", "-2 1"}, {"-4 2", "", "-2 1"}, {"3 -1/2 0", "0", "-6 1"}, {"5", "-7", "1"}, {"4", "2 2", "1"}, {"2 2", "4", "1"},
		{"2 2", "2 2", "1 1"}, {"2 2", "-3 -3", "1 1"}, {"-1 0 1", "1 2 1", "1 1"}, {"-1 0 1", "1 0 1", "1"}, {"0 0 1", "0 0 0 5", "0 0 1"}, {"6 5 1", "6 1 -1", "2 1"}, {"1/2 1/3", "9/4 3/2", "3/2 1"},
	} {
		if got := polynomial.GCD(of(x.a), of(x.b)); !same(got, of(x.want)) {
			t.Errorf("P4.1: GCD(%s, %s): got %s", x.a, x.b, show(got))
		}
	}
}

// P4.1: divisors are right for polynomials that have more in common modulo the greatest primes with 31 binary
// digits, and for leading coefficients that these primes divide.
func TestGCDModuloPrimes(t *testing.T) {
	const p, q, r = 2147483647, 2147483629, 2147483587
	number := func(factors ...int64) poly {
		product := constant(1)
		for _, f := range factors {
			product = product.times(constant(f))
		}
		return product
	}
	x := binomial(0)
	for i, n := range []poly{number(p), number(q), number(r), number(p, q), number(q, r), number(p, q, r), number(p, p)} {
		for k, common := range []poly{constant(1), binomial(1), binomial(-7).times(binomial(2)), x.times(n).plus(constant(1)), x.times(constant(3)).plus(n)} {
			lead := x.times(n)
			for _, factors := range [][2]poly{{x, x.plus(n)}, {x.plus(n), x}, {lead.plus(constant(1)), lead.plus(constant(2))}} {
				got := polynomial.GCD(written(common.times(factors[0])), written(common.times(factors[1])))
				if !same(got, written(common.monic())) {
					t.Errorf("P4.1: row %d, divisor %d: got %s", i, k, show(got))
				}
			}
		}
	}
}

// long returns a polynomial whose coefficients have many digits.
func (s *source) long(degree int) poly {
	a := make(poly, degree+1)
	for i := range a {
		n := power(int64(3+s.below(7)), 40+s.below(60))
		a[i] = new(big.Rat).SetInt(n.Add(n, big.NewInt(int64(s.below(1000)))))
		if s.below(2) == 0 {
			a[i].Neg(a[i])
		}
	}
	return a
}

// P4.1: divisors with long coefficients, which need many primes.
func TestGCDLong(t *testing.T) {
	s := source(7)
	for range 12 {
		a, b, common := s.long(1+s.below(12)), s.long(1+s.below(12)), s.long(1+s.below(20))
		if len(a.common(b)) > 1 {
			t.Fatal("the sample is not coprime")
		}
		got := polynomial.GCD(written(a.times(common)), written(b.times(common)))
		expect(t, "P4.1: GCD", got, common.monic())
	}
}

// irreducible returns different irreducible polynomials with the leading coefficient 1.
func irreducible() []poly {
	var factors []poly
	for _, text := range []string{"0 1", "-1 1", "1/2 1", "-22/7 1", "1 0 1", "-2 0 1", "-3 0 1", "1 1 1", "-2 0 0 1", "1 0 0 0 1", "2/3 0 1"} {
		factors = append(factors, polynomialOf(of(text)))
	}
	return factors
}

// P4.1: Squarefree has each complex root once, whatever the multiplicities and the leading coefficient are.
func TestSquarefree(t *testing.T) {
	s := source(8)
	for range 300 {
		product, want := polynomialOf(s.proper(0)), constant(1)
		for _, factor := range irreducible() {
			multiplicity := max(0, s.below(7)-3)
			for range multiplicity {
				product = product.times(factor)
			}
			if multiplicity > 0 {
				want = want.times(factor)
			}
		}
		a := written(product)
		if s.below(2) == 0 {
			a = loose(a)
		}
		expect(t, "P4.1: Squarefree", polynomial.Squarefree(a), want)
	}
	pairs(func(a, b []api.Rat) {
		x := polynomialOf(a)
		want := x.monic()
		if common := x.common(x.derivative()); len(common) > 1 {
			quotient, _, _ := polynomial.DivMod(written(want), written(common))
			want = polynomialOf(quotient)
		}
		expect(t, "P4.1: Squarefree", polynomial.Squarefree(a), want)
	})
}

// P4.1: 0, constants, and single roots of great multiplicity.
func TestSquarefreeRows(t *testing.T) {
	for text, want := range map[string]string{"": "", "0": "", "0 0 0": "", "1": "1", "-5": "1", "2/3 0": "1", "0 -3": "0 1", "4 2": "2 1", "1 2 1": "1 1", "0 0 0 0 0 0 7": "0 1", "-2 0 1": "-2 0 1", "4 0 -4 0 1": "-2 0 1", "0 2 -4 2": "0 -1 1", "1/4 0 -1": "-1/4 0 1"} {
		if got := polynomial.Squarefree(of(text)); !same(got, of(want)) {
			t.Errorf("P4.1: Squarefree(%s): got %s", text, show(got))
		}
	}
	tenth := constant(1)
	for range 30 {
		tenth = tenth.times(polynomialOf(of("-1/3 10")))
	}
	expect(t, "P4.1: Squarefree of a power", polynomial.Squarefree(written(tenth)), polynomialOf(of("-1/30 1")))
}

// P4.1: polynomials of a great degree are divided and made squarefree too.
func TestGreatDegree(t *testing.T) {
	s := source(9)
	a, b := s.long(40), s.long(30)
	product := polynomial.Mul(written(a), written(b))
	if got := polynomial.Squarefree(polynomial.Mul(product, written(a))); !slices.EqualFunc(got, polynomial.Squarefree(product), sameRat) || degree(t, got) != 70 {
		t.Errorf("P4.1: Squarefree: degree %d", degree(t, got))
	}
	quotient, rest, e := polynomial.DivMod(product, written(b))
	if e != api.OK || len(rest) != 0 {
		t.Fatalf("P4.1: DivMod: degree %d, %v", degree(t, rest), e)
	}
	expect(t, "P4.1: DivMod", quotient, a)
}
