package sturm_test

import (
	"math/big"
	"testing"

	"setsquare/api"
	"setsquare/polynomial"
	"setsquare/rational"
	"setsquare/sturm"
)

// checkChain checks a chain of at least one polynomial by its definition: each polynomial from the third one on is
// minus a remainder if its sum with the last but one is a multiple of the last one, which has a greater degree.
func checkChain(t *testing.T, chain [][]api.Rat, simple []api.Rat) {
	t.Helper()
	if len(chain) < 2 || !same(chain[0], simple) || !same(chain[1], polynomial.Derivative(simple)) {
		t.Fatalf("P5.1: the chain of a multiple of %.300s begins with %.300s", show(simple), show(chain[0]))
	}
	multiple := func(a, b []api.Rat) bool {
		_, rest, e := polynomial.DivMod(a, b)
		return e == api.OK && len(rest) == 0
	}
	for k, a := range chain {
		if len(a) == 0 || polynomial.Degree(a) != len(a)-1 || !validAll(a) {
			t.Fatalf("P5.1: polynomial %d of a chain is not in normal form, or 0: %.300s", k, show(a))
		}
		if k >= 2 && (len(a) >= len(chain[k-1]) || !multiple(polynomial.Add(chain[k-2], a), chain[k-1])) {
			t.Fatalf("P5.1: polynomial %d of the chain of %.300s is %.300s", k, show(simple), show(a))
		}
	}
	if last := len(chain) - 1; !multiple(chain[last-1], chain[last]) {
		t.Fatalf("P5.1: the chain of %.300s ends too early", show(simple))
	}
}

// validAll reports whether all numbers of a list are in normal form.
func validAll(a []api.Rat) bool {
	for _, c := range a {
		if !rational.Valid(c) {
			return false
		}
	}
	return true
}

// P5.1: chains of polynomials of all kinds, with multiple roots and zeros at the end.
func TestChain(t *testing.T) {
	polynomials(func(s *source, k known) {
		checkChain(t, sturm.Chain(k.poly), k.simple)
	})
}

// P5.1: a chain of many polynomials with long coefficients.
func TestChainLong(t *testing.T) {
	s := source(52)
	for range 30 {
		a := make([]api.Rat, 13)
		for i := range a {
			a[i] = normal(new(big.Rat).Add(s.number(), big.NewRat(int64(i*i+1), 97)))
		}
		checkChain(t, sturm.Chain(a), polynomial.Squarefree(a))
	}
}

// P5.1: the chains of 0 and of constants are empty; there are chains with gaps between the degrees, and polynomials
// whose first and last coefficients have all signs.
func TestChainRows(t *testing.T) {
	for _, x := range []struct{ poly, chain string }{
		{"", ""}, {"0", ""}, {"0 0 0", ""}, {"1", ""}, {"-2/3", ""}, {"5 0 0", ""},
		{"-2 0 1", "-2 0 1,0 2,2"}, {"3 -5 1 1", "-3 2 1,2 2,4"}, {"6 3", "2 1,1"}, {"6 3 0 0", "2 1,1"}, {"0 -1/2", "0 1,1"}, {"0 0 5", "0 1,1"}, {"1 -2 1", "-1 1,1"}, {"1 0 1", "1 0 1,0 2,-1"},
		{"1/3 0 -1/2 0", "-2/3 0 1,0 2,2/3"}, {"-1 0 0 1", "-1 0 0 1,0 0 3,1"}, {"1 -3 0 1", "1 -3 0 1,-3 0 3,-1 2,9/4"}, {"0 1 0 0 1", "0 1 0 0 1,1 0 0 4,0 -3/4,-1"},
	} {
		got, want := sturm.Chain(of(x.poly)), list(x.chain)
		if len(got) != len(want) {
			t.Errorf("P5.1: the chain of %s has %d polynomials", x.poly, len(got))
			continue
		}
		for k, a := range got {
			if !same(a, want[k]) {
				t.Errorf("P5.1: polynomial %d of the chain of %s: got %s", k, x.poly, show(a))
			}
		}
	}
}

// P5.1: changes at x of any list of polynomials, among them 0, and with values that are 0.
func TestChangesRows(t *testing.T) {
	for _, x := range []struct {
		chain, x string
		want     int
	}{
		{"", "0", 0}, {"", "-7/2", 0}, {" ", "3", 0}, {"0", "3", 0}, {" ,0,0 0", "1", 0}, {"5", "1", 0}, {"1,1", "0", 0}, {"1,-1", "0", 1}, {"-1,1", "0", 1}, {"-1,-2", "0", 0}, {"1,-1,1,-1", "9", 3}, {"1,1,-1,-1,1", "9", 2},
		{"1,0,-1", "2", 1}, {"1,0,1", "2", 0}, {"0,1, ,-1,0 0", "2", 1}, {"-1, ,0,-1", "2", 0}, {"1,-1 1,-1", "1", 1}, {"1,-1 1,1", "1", 0}, {"1,-1 1,1", "1/2", 2}, {"1,-1 1 0,1", "3/2", 0}, {"0 1,1", "0", 0}, {"0 1,-1", "0", 0}, {"0 1,1", "-1/5", 1},
		{"-2 0 1,0 2,2", "0", 1}, {"-2 0 1,0 2,2", "2", 0}, {"-2 0 1,0 2,2", "-2", 2}, {"1 0 1,0 2,-1", "0", 1}, {"1 1,1 1,1 1", "-1", 0},
	} {
		if got := sturm.Changes(list(x.chain), fraction(x.x)); got != x.want {
			t.Errorf("P5.1: the changes of %q at %s: got %d", x.chain, x.x, got)
		}
	}
}

// P5.1: changes at x of lists of polynomials that are no chains: each value that is not 0 is compared with the last
// such value before it.
func TestChanges(t *testing.T) {
	s := source(53)
	for range 400 {
		x := s.number()
		var chain [][]api.Rat
		want, before := 0, 0
		for range s.below(9) {
			a := s.known(2).poly
			if s.below(4) == 0 {
				a = rootless()[s.below(len(rootless()))]
			}
			chain = append(chain, a)
			sign := valueAt(a, x).Sign()
			if sign*before == -1 {
				want++
			}
			if sign != 0 {
				before = sign
			}
		}
		if got := sturm.Changes(chain, normal(x)); got != want {
			t.Fatalf("P5.1: changes at %s of %d polynomials: got %d, want %d", x.RatString(), len(chain), got, want)
		}
	}
}

// valueAt returns the value of a polynomial: the sum of the multiples of the powers of x.
func valueAt(a []api.Rat, x *big.Rat) *big.Rat {
	sum, power := new(big.Rat), big.NewRat(1, 1)
	for _, c := range a {
		sum.Add(sum, new(big.Rat).Mul(value(c), power))
		power = new(big.Rat).Mul(power, x)
	}
	return sum
}
