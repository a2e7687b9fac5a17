package polynomial

import (
	"math/big"
	"testing"

	"setsquare/api"
	"setsquare/integer"
)

// P4.1: the primes of the greatest common divisor are primes, and none is left out.
func TestPrimes(t *testing.T) {
	check := func(n uint64) {
		if want := new(big.Int).SetUint64(n).ProbablyPrime(0); isPrime(n) != want {
			t.Fatalf("P4.1: isPrime(%d): %v", n, !want)
		}
	}
	for n := uint64(62); n < 30000; n++ {
		check(n)
	}
	for n := uint64(primeLimit - 1); n > primeLimit-30000; n-- {
		check(n)
	}
	if p := primeBelow(primeLimit); p != 1<<31-1 || primeBelow(p) != 2147483629 || primeBelow(68) != 67 {
		t.Errorf("P4.1: primeBelow: got %d, %d", p, primeBelow(p))
	}
}

// P4.1: residues of integers of both signs and of all lengths.
func TestResidues(t *testing.T) {
	for _, p := range []uint64{67, 65537, 2147483587, 2147483629, 2147483647} {
		modulus := new(big.Int).SetUint64(p)
		for _, mag := range [][]uint32{nil, {1}, {66}, {uint32(p)}, {1<<32 - 1}, {0, 1}, {1<<32 - 1, 1<<32 - 1}, {7, 0, 0, 1 << 31}} {
			for _, negative := range []bool{false, true} {
				n := integer.Norm(api.Int{Neg: negative, Mag: mag})
				value, _ := new(big.Int).SetString(integer.Format(n), 10)
				want := new(big.Int).Mod(value, modulus).Uint64()
				if got := residue(n, p); got != want {
					t.Errorf("P4.1: residue(%v, %d): got %d", value, p, got)
				}
				if want > 0 && inverse(want, p)*want%p != 1 {
					t.Errorf("P4.1: inverse(%d, %d): got %d", want, p, inverse(want, p))
				}
				back, small := least(want, p), integer.FromInt(int64(p/2))
				if residue(back, p) != want || integer.Cmp(back, small) > 0 || integer.Cmp(back, integer.Neg(small)) < 0 {
					t.Errorf("P4.1: least(%d, %d): got %v", want, p, back)
				}
			}
		}
	}
}
