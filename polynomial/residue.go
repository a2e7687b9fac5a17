package polynomial

import (
	"setsquare/api"
	"setsquare/integer"
	"setsquare/residue"
)

// primeBelow returns the greatest prime less than n, which is greater than 67 and at most residue.Limit.
func primeBelow(n uint64) uint64 {
	for n--; !residue.IsPrime(n); n-- {
	}
	return n
}

// least returns the integer with the least absolute value that has the residue r modulo p.
func least(r, p uint64) api.Int {
	if r > p/2 {
		return integer.FromInt(int64(r) - int64(p))
	}
	return integer.FromInt(int64(r))
}

// residues returns the residues of a polynomial modulo p, without zeros at the end.
func residues(a []api.Int, p uint64) []uint64 {
	result := make([]uint64, len(a))
	for i, c := range a {
		result[i] = residue.Of(c, p)
	}
	return cutResidues(result)
}

// cutResidues returns a list without the zeros at its end. It keeps the list.
func cutResidues(a []uint64) []uint64 {
	return cut(a, func(r uint64) int { return int(min(r, 1)) })
}

// multiply returns a times a factor that is not 0, modulo p.
func multiply(a []uint64, factor, p uint64) []uint64 {
	result := make([]uint64, len(a))
	for i, r := range a {
		result[i] = r * factor % p
	}
	return result
}

// commonResidues returns the greatest common divisor modulo p with the leading coefficient 1; a and b are not both 0.
// It changes both.
func commonResidues(a, b []uint64, p uint64) []uint64 {
	for len(b) > 0 {
		a, b = b, remainder(a, b, p)
	}
	return multiply(a, residue.Inverse(last(a), p), p)
}

// remainder returns the remainder of a divided by b, which is not 0, modulo p. It changes and keeps a.
func remainder(a, b []uint64, p uint64) []uint64 {
	factor := residue.Inverse(last(b), p)
	for len(a) >= len(b) {
		// Added instead of subtracted: the opposite residue.
		multiple := (p - last(a)) * factor % p
		part := a[len(a)-len(b):]
		for i, r := range b {
			part[i] = (part[i] + r*multiple) % p
		}
		a = cutResidues(a)
	}
	return a
}
