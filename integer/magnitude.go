package integer

import (
	"cmp"
	"math/bits"
	"slices"
)

// A magnitude is the absolute value of an integer, in words of 32 binary digits, the last one not 0.
// Functions that return magnitudes return new memory, apart from trim.
type magnitude []uint32

// trim returns the words without zeros at the end, in the same memory.
func trim(words []uint32) magnitude {
	n := len(words)
	for n > 0 && words[n-1] == 0 {
		n--
	}
	return words[:n]
}

// fromUint returns a number that fits into two words.
func fromUint(n uint64) magnitude {
	return trim([]uint32{uint32(n), uint32(n >> 32)})
}

// toUint returns the value of a magnitude of at most two words.
func toUint(a magnitude) uint64 {
	var n uint64
	for i, w := range a {
		n |= uint64(w) << (32 * i)
	}
	return n
}

// compare returns the sign of a - b.
func compare(a, b magnitude) int {
	if len(a) != len(b) {
		return cmp.Compare(len(a), len(b))
	}
	for i := len(a) - 1; i >= 0; i-- {
		if a[i] != b[i] {
			return cmp.Compare(a[i], b[i])
		}
	}
	return 0
}

// binaryDigits returns the number of binary digits.
func binaryDigits(a magnitude) int {
	if len(a) == 0 {
		return 0
	}
	return 32*(len(a)-1) + bits.Len32(a[len(a)-1])
}

// add returns a + b.
func add(a, b magnitude) magnitude {
	if len(a) < len(b) {
		a, b = b, a
	}
	sum := make(magnitude, len(a)+1)
	copy(sum, a)
	addTo(sum, b)
	return trim(sum)
}

// subtract returns a - b, where b is at most a.
func subtract(a, b magnitude) magnitude {
	difference := slices.Clone(a)
	subtractFrom(difference, b)
	return trim(difference)
}

// addTo adds b to z, which has at least as many words. A carry out of z is dropped.
func addTo(z, b []uint32) {
	var carry uint64
	for i, w := range b {
		carry += uint64(z[i]) + uint64(w)
		z[i] = uint32(carry)
		carry >>= 32
	}
	for i := len(b); carry != 0 && i < len(z); i++ {
		carry += uint64(z[i])
		z[i] = uint32(carry)
		carry >>= 32
	}
}

// subtractFrom subtracts b from z, which is at least b.
func subtractFrom(z, b []uint32) {
	var borrow uint64
	for i, w := range b {
		d := uint64(z[i]) - uint64(w) - borrow
		z[i] = uint32(d)
		borrow = d >> 63
	}
	for i := len(b); borrow != 0; i++ {
		d := uint64(z[i]) - borrow
		z[i] = uint32(d)
		borrow = d >> 63
	}
}

// shiftLeft returns a times 2^n.
func shiftLeft(a magnitude, n int) magnitude {
	z := make(magnitude, n/32+len(a)+1)
	shiftInto(z[n/32:], a, n%32)
	return trim(z)
}

// shiftInto writes a times 2^n to z, which contains zeros and has one word more; n is less than 32.
func shiftInto(z, a []uint32, n int) {
	for i, w := range a {
		t := uint64(w) << n
		z[i] |= uint32(t)
		z[i+1] = uint32(t >> 32)
	}
}

// shiftRight returns a divided by 2^n, rounded down.
func shiftRight(a magnitude, n int) magnitude {
	if n/32 >= len(a) {
		return nil
	}
	a = a[n/32:]
	z := make(magnitude, len(a))
	for i := range z {
		z[i] = a[i] >> (n % 32)
		if i+1 < len(a) {
			z[i] |= a[i+1] << (32 - n%32)
		}
	}
	return trim(z)
}
