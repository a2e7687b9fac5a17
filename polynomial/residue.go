package polynomial

import (
	"slices"

	"setsquare/api"
	"setsquare/integer"
)

// primeLimit is so small that products of residues, and a residue followed by a word of an integer, fit into a uint64.
const primeLimit = 1 << 31

// primeBelow returns the greatest prime less than n, which is greater than 67 and at most primeLimit.
func primeBelow(n uint64) uint64 {
	for n--; !isPrime(n); n-- {
	}
	return n
}

// isPrime reports whether n, which is greater than 61 and less than primeLimit, is a prime. This is the test of
// Miller and Rabin, which is exact with these three bases for numbers less than 4759123141.
func isPrime(n uint64) bool {
	return n%2 == 1 && isProbablePrime(n, 2) && isProbablePrime(n, 7) && isProbablePrime(n, 61)
}

// isProbablePrime reports whether the square roots of 1 that are powers of the base are those modulo a prime.
func isProbablePrime(n, base uint64) bool {
	odd := n - 1
	for odd%2 == 0 {
		odd /= 2
	}
	x := power(base, odd, n)
	if x == 1 {
		return true
	}
	for ; odd < n-1; odd *= 2 {
		if x == n-1 {
			return true
		}
		x = x * x % n
	}
	return false
}

// power returns the power of x modulo p.
func power(x, exponent, p uint64) uint64 {
	result := uint64(1)
	for ; exponent > 0; exponent /= 2 {
		if exponent%2 == 1 {
			result = result * x % p
		}
		x = x * x % p
	}
	return result
}

// inverse returns the inverse of x, which is not 0, modulo the prime p.
func inverse(x, p uint64) uint64 { return power(x, p-2, p) }

// residue returns the residue of an integer modulo p.
func residue(n api.Int, p uint64) uint64 {
	var r uint64
	for _, w := range slices.Backward(n.Mag) {
		r = (r<<32 | uint64(w)) % p
	}
	if n.Neg && r > 0 {
		return p - r
	}
	return r
}

// least returns the integer with the least absolute value that has the residue r modulo p.
func least(r, p uint64) api.Int {
	if r > p/2 {
		return integer.FromInt(int64(r) - int64(p))
	}
	return integer.FromInt(int64(r))
}

// residues returns the residues of a polynomial modulo p, without zeros at the end.
func residues(a []api.Int, p uint64) []uint64 {
	result := make([]uint64, len(a))
	for i, c := range a {
		result[i] = residue(c, p)
	}
	return cutResidues(result)
}

// cutResidues returns a list without the zeros at its end. It keeps the list.
func cutResidues(a []uint64) []uint64 {
	return cut(a, func(r uint64) int { return int(min(r, 1)) })
}

// multiply returns a times a factor that is not 0, modulo p.
func multiply(a []uint64, factor, p uint64) []uint64 {
	result := make([]uint64, len(a))
	for i, r := range a {
		result[i] = r * factor % p
	}
	return result
}

// commonResidues returns the greatest common divisor modulo p with the leading coefficient 1; a and b are not both 0.
// It changes both.
func commonResidues(a, b []uint64, p uint64) []uint64 {
	for len(b) > 0 {
		a, b = b, remainder(a, b, p)
	}
	return multiply(a, inverse(last(a), p), p)
}

// remainder returns the remainder of a divided by b, which is not 0, modulo p. It changes and keeps a.
func remainder(a, b []uint64, p uint64) []uint64 {
	factor := inverse(last(b), p)
	for len(a) >= len(b) {
		// Added instead of subtracted: the opposite residue.
		multiple := (p - last(a)) * factor % p
		part := a[len(a)-len(b):]
		for i, r := range b {
			part[i] = (part[i] + r*multiple) % p
		}
		a = cutResidues(a)
	}
	return a
}
