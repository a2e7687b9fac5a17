package polynomial

import (
	"math/big"
	"testing"

	"setsquare/integer"
	"setsquare/residue"
)

// P4.1: no prime is left out below the greatest ones, which the greatest common divisor begins with.
func TestPrimes(t *testing.T) {
	p := primeBelow(residue.Limit)
	if p != 1<<31-1 || primeBelow(68) != 67 {
		t.Errorf("P4.1: primeBelow: got %d, %d", p, primeBelow(68))
	}
	for n := p - 1; n > residue.Limit-30000; n-- {
		if n < p {
			p = primeBelow(p)
		}
		if want := new(big.Int).SetUint64(n).ProbablyPrime(0); (n == p) != want {
			t.Fatalf("P4.1: %d is a prime: %v; primeBelow: got %d", n, want, p)
		}
	}
}

// P4.1: the least integers with a residue.
func TestLeast(t *testing.T) {
	for _, p := range []uint64{67, 65537, 2147483587, 2147483629, 2147483647} {
		for _, r := range []uint64{0, 1, 2, 33, 34, p / 3, p / 2, p/2 + 1, p - 2, p - 1} {
			back, small := least(r, p), integer.FromInt(int64(p/2))
			if residue.Of(back, p) != r || integer.Cmp(back, small) > 0 || integer.Cmp(back, integer.Neg(small)) < 0 {
				t.Errorf("P4.1: least(%d, %d): got %v", r, p, back)
			}
		}
	}
}
