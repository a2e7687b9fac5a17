package sturm

import (
	"math/bits"
	"slices"
)

// The ordinates on the halves of an interval are longer than those on the interval, by as many binary digits as the degree.
// So they are rounded, and exact ones are computed only where the rounded ones do not show enough.

// rounded are ordinates in integers of the same number of words, the least significant one first, in two's complement.
// Up to a common factor, each ordinate is at least as great as its integer, and at most as great as that plus doubt.
type rounded struct {
	words    int
	integers []uint64 // one after the other
	doubt    uint64
}

// rounded returns the ordinates with as many binary digits as there are in all words, but for one for the sign, and one
// more, so that sums of two integers fit into the words. A halving can make all ordinates smaller by as many digits as the
// degree; so these are enough for some of them.
func (o ordinates) rounded() rounded {
	digits := 0
	for _, c := range o {
		digits = max(digits, binaryDigits(c.Num.Mag))
	}
	words := 2 + len(o)/8
	shift := 64*words - 2 - digits
	r := rounded{words: words, doubt: 1}
	for _, c := range o {
		for j := range words {
			w := window(c.Num.Mag, 64*j-shift)
			if c.Num.Neg {
				// This is -1 minus the integer that the words of a positive number would have been.
				w = ^w
			}
			r.integers = append(r.integers, w)
		}
	}
	return r
}

// binaryDigits returns the number of binary digits of a number with these words, the last of which is not 0.
func binaryDigits(mag []uint32) int {
	if len(mag) == 0 {
		return 0
	}
	return 32*len(mag) - bits.LeadingZeros32(mag[len(mag)-1])
}

// window returns 64 binary digits of a number, from digit number k on. There are zeros before the first one, number 0, and
// behind the last one.
func window(mag []uint32, k int) uint64 {
	var digits uint64
	// The shift rounds down.
	first := k >> 5
	for i := max(first, 0); i < min(first+3, len(mag)); i++ {
		if place := 32*i - k; place >= 0 {
			digits |= uint64(mag[i]) << place
		} else {
			digits |= uint64(mag[i]) >> -place
		}
	}
	return digits
}

// integer returns integer number k, in the same memory.
func (r rounded) integer(k int) []uint64 { return r.integers[k*r.words : (k+1)*r.words] }

// sign returns the sign of ordinate number k, or 0 if it is not known.
func (r rounded) sign(k int) int {
	x := r.integer(k)
	if x[r.words-1]>>63 == 0 {
		if slices.Max(x) > 0 {
			return 1
		}
		return 0
	}
	carry := r.doubt
	for _, w := range x {
		_, carry = bits.Add64(w, carry, 0)
	}
	// The sum with doubt is negative if there is no carry.
	return int(carry) - 1
}

// roots returns a number that is not greater than that of the exact ordinates, and whether it is equal to it, or at least
// 2. The zero value of the type shows nothing.
func (r rounded) roots() (int, bool) {
	count, before, known := 0, 0, r.words > 0
	for k := range len(r.integers) / max(r.words, 1) {
		sign := r.sign(k)
		if sign*before < 0 {
			count++
		}
		if sign != 0 {
			before = sign
		} else {
			known = false
		}
	}
	return count, known || count > 1
}

// halves returns the ordinates on the halves of the interval (de Casteljau's algorithm).
func (r rounded) halves() (rounded, rounded) {
	left, right := r, r
	left.integers, right.integers = slices.Clone(r.integers), slices.Clone(r.integers)
	degree := len(r.integers)/r.words - 1
	for k := degree; k > 0; k-- {
		for j := degree; j > degree-k; j-- {
			mean(left.integer(j), left.integer(j-1))
		}
		copy(right.integer(k-1), left.integer(degree))
	}
	// Each of the means adds up to 1/2.
	left.doubt += uint64(degree+1) / 2
	right.doubt = left.doubt
	return left, right
}

// mean sets x to the mean of x and y, rounded down.
func mean(x, y []uint64) {
	var sum, carry uint64
	for i, w := range x {
		sum, carry = bits.Add64(w, y[i], carry)
		if i > 0 {
			x[i-1] |= sum << 63
		}
		x[i] = sum >> 1
	}
	// The sign stays.
	x[len(x)-1] |= sum & (1 << 63)
}
