// Package residue implements arithmetic with residues modulo prime numbers. It is no layer: those layers use it that find
// out with residues what would take much longer with the numbers themselves.
package residue

import (
	"slices"

	"setsquare/api"
)

// Limit is the bound of all moduli. It is so small that products of residues, and a residue followed by a word of an
// integer, fit into a uint64.
const Limit = 1 << 31

// IsPrime reports whether n, which is less than Limit, is a prime number greater than 61. This is the test of Miller and
// Rabin, which is exact with these three bases for numbers less than 4759123141.
func IsPrime(n uint64) bool {
	if n <= 61 {
		return false
	}
	for _, divisor := range []uint64{2, 3, 5, 7, 11, 13} {
		// Most other numbers are found out here, which is faster.
		if n%divisor == 0 {
			return false
		}
	}
	return isProbablePrime(n, 2) && isProbablePrime(n, 7) && isProbablePrime(n, 61)
}

// isProbablePrime reports whether the square roots of 1 that are powers of the base are those modulo a prime number.
func isProbablePrime(n, base uint64) bool {
	odd := n - 1
	for odd%2 == 0 {
		odd /= 2
	}
	x := Power(base, odd, n)
	if x == 1 {
		return true
	}
	for ; odd < n-1; odd *= 2 {
		if x == n-1 {
			return true
		}
		x = x * x % n
	}
	return false
}

// Power returns the power of x modulo p.
func Power(x, exponent, p uint64) uint64 {
	result := uint64(1)
	for ; exponent > 0; exponent /= 2 {
		if exponent%2 == 1 {
			result = result * x % p
		}
		x = x * x % p
	}
	return result
}

// Inverse returns the inverse of x, which is not 0, modulo the prime number p.
func Inverse(x, p uint64) uint64 { return Power(x, p-2, p) }

// Of returns the residue of an integer modulo p.
func Of(n api.Int, p uint64) uint64 {
	var r uint64
	for _, w := range slices.Backward(n.Mag) {
		r = (r<<32 | uint64(w)) % p
	}
	if n.Neg && r > 0 {
		return p - r
	}
	return r
}
