package residue_test

import (
	"math/big"
	"testing"

	"setsquare/api"
	"setsquare/integer"
	"setsquare/residue"
)

// The primes of IsPrime are primes, and none greater than 61 is left out.
func TestIsPrime(t *testing.T) {
	check := func(n uint64) {
		if want := n > 61 && new(big.Int).SetUint64(n).ProbablyPrime(0); residue.IsPrime(n) != want {
			t.Fatalf("IsPrime(%d): %v", n, !want)
		}
	}
	for n := range uint64(70000) {
		check(n)
	}
	for n := uint64(residue.Limit - 1); n > residue.Limit-30000; n-- {
		check(n)
	}
}

// Residues and inverses for integers of both signs and of all lengths.
func TestResidues(t *testing.T) {
	for _, p := range []uint64{67, 65537, 2147483587, 2147483629, 2147483647} {
		modulus := new(big.Int).SetUint64(p)
		for _, mag := range [][]uint32{nil, {1}, {66}, {uint32(p)}, {1<<32 - 1}, {0, 1}, {1<<32 - 1, 1<<32 - 1}, {7, 0, 0, 1 << 31}} {
			for _, negative := range []bool{false, true} {
				n := integer.Norm(api.Int{Neg: negative, Mag: mag})
				value, _ := new(big.Int).SetString(integer.Format(n), 10)
				want := new(big.Int).Mod(value, modulus).Uint64()
				if got := residue.Of(n, p); got != want {
					t.Errorf("Of(%v, %d): got %d", value, p, got)
				}
				if want > 0 && residue.Inverse(want, p)*want%p != 1 {
					t.Errorf("Inverse(%d, %d): got %d", want, p, residue.Inverse(want, p))
				}
			}
		}
	}
}

// Powers of small numbers, also those with the exponents 0 and 1.
func TestPower(t *testing.T) {
	for _, p := range []uint64{67, 65537, 2147483647} {
		for x := range uint64(70) {
			want := uint64(1)
			for exponent := range uint64(100) {
				if got := residue.Power(x, exponent, p); got != want {
					t.Fatalf("Power(%d, %d, %d): got %d, want %d", x, exponent, p, got, want)
				}
				want = want * x % p
			}
		}
	}
}
