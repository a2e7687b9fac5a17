package integer

import (
	"math/bits"
	"slices"
)

// commonDivisor returns the greatest common divisor.
func commonDivisor(a, b magnitude) magnitude {
	if compare(a, b) < 0 {
		a, b = b, a
	}
	if len(b) > 2 {
		a, b = reduce(a, b)
	}
	if len(b) == 0 {
		return slices.Clone(a)
	}
	_, rest := divide(a, b)
	return fromUint(commonUint(toUint(b), toUint(rest)))
}

// commonUint returns the greatest common divisor; a is not 0.
func commonUint(a, b uint64) uint64 {
	if b == 0 {
		return a
	}
	twos := bits.TrailingZeros64(a | b)
	a >>= bits.TrailingZeros64(a)
	for b != 0 {
		b >>= bits.TrailingZeros64(b)
		if a > b {
			a, b = b, a
		}
		b -= a
	}
	return a << twos
}

// reduce performs steps of the Euclidean algorithm on numbers a and b, where a is at least b, until b has at most
// two words. As long as the first binary digits determine the quotients, it performs many steps at once (Lehmer's
// algorithm), which is much faster than as many divisions. All four lists have room for as many words as a.
func reduce(a, b magnitude) (magnitude, magnitude) {
	n := len(a)
	a, b = slices.Clone(a), append(make(magnitude, 0, n), b...)
	spareA, spareB := make(magnitude, n), make(magnitude, n)
	for len(b) > 2 {
		k := binaryDigits(a) - windowDigits
		s := simulate(window(a, k), window(b, k))
		if s.none() {
			_, rest := divide(a, b)
			a, b = b, append(a[:0], rest...)
			continue
		}
		n = len(a)
		long := b[:n]
		clear(long[len(b):])
		nextA := combine(spareA[:n], a, long, s.aFromA, s.aFromB)
		nextB := combine(spareB[:n], a, long, s.bFromA, s.bFromB)
		a, b, spareA, spareB = nextA, nextB, a, b
	}
	return a, b
}

// windowDigits is the number of binary digits that steps are simulated with: the factors have half as many, so
// that combine does not overflow.
const windowDigits = 62

// window returns the binary digits of a from number k on, which are at most windowDigits; k is not negative.
func window(a magnitude, k int) uint64 {
	a = a[min(k/32, len(a)):]
	low := toUint(a[:min(2, len(a))]) >> (k % 32)
	if len(a) > 2 {
		low |= uint64(a[2]) << (64 - k%32)
	}
	return low
}

// steps are steps of the Euclidean algorithm: a becomes aFromA a + aFromB b, and b becomes bFromA a + bFromB b.
type steps struct{ aFromA, aFromB, bFromA, bFromB int64 }

// none reports whether the steps change nothing.
func (s steps) none() bool { return s.aFromB == 0 }

// simulate performs the Euclidean algorithm on the first digits a and b of two numbers as long as the quotients are
// certainly those of the numbers (Collins' condition). The last quotient is not used.
func simulate(a, b uint64) steps {
	var u0, u1, u2 uint64 = 0, 1, 0
	var v0, v1, v2 uint64 = 0, 0, 1
	even := false
	for b >= v2 && a-b >= v1+v2 {
		q := a / b
		a, b = b, a%b
		u0, u1, u2 = u1, u2, u1+q*u2
		v0, v1, v2 = v1, v2, v1+q*v2
		even = !even
	}
	s := steps{int64(u0), -int64(v0), -int64(u1), int64(v1)}
	if !even {
		s = steps{-int64(u0), int64(v0), int64(u1), -int64(v1)}
	}
	return s
}

// combine writes x a + y b, which is not negative, to z, where a, b and z have the same length, and trims it.
// One of x and y is not positive, and the other one not negative; both have at most 31 binary digits.
func combine(z, a, b []uint32, x, y int64) magnitude {
	var carry int64
	for i := range z {
		carry += x*int64(a[i]) + y*int64(b[i])
		z[i] = uint32(carry)
		carry >>= 32
	}
	return trim(z)
}
