package integer

import (
	"math/bits"
	"slices"
)

// divide returns the quotient of a and b, rounded down, and the remainder; b is not 0.
func divide(a, b magnitude) (magnitude, magnitude) {
	switch {
	case compare(a, b) < 0:
		return nil, slices.Clone(a)
	case len(a) <= 2:
		x, y := toUint(a), toUint(b)
		return fromUint(x / y), fromUint(x % y)
	case len(b) == 1:
		quotient := slices.Clone(a)
		rest := divideByWord(quotient, b[0])
		return trim(quotient), fromUint(uint64(rest))
	}
	return divideLong(a, b)
}

// divideByWord divides z in place, and returns the remainder.
func divideByWord(z []uint32, w uint32) uint32 {
	var rest uint64
	for i := len(z) - 1; i >= 0; i-- {
		n := rest<<32 | uint64(z[i])
		z[i] = uint32(n / uint64(w))
		rest = n % uint64(w)
	}
	return uint32(rest)
}

// divideLong divides as on paper, word by word; b has at least two words, and a is at least b.
// Both are shifted until b begins with the binary digit 1, so that the estimates are good.
func divideLong(a, b magnitude) (magnitude, magnitude) {
	shift := bits.LeadingZeros32(b[len(b)-1])
	divisor := shiftLeft(b, shift)
	rest := make(magnitude, len(a)+1)
	shiftInto(rest, a, shift)
	quotient := make(magnitude, len(a)-len(b)+1)
	for i := len(quotient) - 1; i >= 0; i-- {
		part := rest[i : i+len(b)+1]
		w := estimate(part, divisor)
		if subtractMultiple(part, divisor, w) {
			w--
			addTo(part, divisor)
		}
		quotient[i] = w
	}
	return trim(quotient), shiftRight(trim(rest), shift)
}

// estimate returns a word of the quotient, or the word plus 1.
func estimate(part, divisor []uint32) uint32 {
	n := len(divisor)
	first, second := uint64(divisor[n-1]), uint64(divisor[n-2])
	top := uint64(part[n])<<32 | uint64(part[n-1])
	q, r := top/first, top%first
	for q >= 1<<32 || q*second > r<<32|uint64(part[n-2]) {
		q--
		r += first
		if r >= 1<<32 {
			break
		}
	}
	return uint32(q)
}

// subtractMultiple subtracts a times w from z, which has one word more, and reports whether z was too small.
func subtractMultiple(z, a []uint32, w uint32) bool {
	var carry uint64
	low := z[:len(a)]
	for i, x := range a {
		carry += uint64(x) * uint64(w)
		d := uint64(low[i]) - uint64(uint32(carry))
		low[i] = uint32(d)
		carry = carry>>32 + d>>63
	}
	d := uint64(z[len(a)]) - carry
	z[len(a)] = uint32(d)
	return d>>63 == 1
}

// squareRoot returns the square root, rounded down. Each step of the loop doubles the number of correct binary
// digits, and divides numbers of only as many digits; the result is too great by 1 at most.
func squareRoot(a magnitude) magnitude {
	if len(a) == 0 {
		return nil
	}
	last := (binaryDigits(a) - 1) / 2
	root, known := magnitude{1}, 0
	for i := bits.Len(uint(last)) - 1; i >= 0; i-- {
		before := known
		known = last >> i
		quotient, _ := divide(shiftRight(a, 2*last-before-known+1), root)
		root = add(shiftLeft(root, known-before-1), quotient)
	}
	if compare(multiply(root, root), a) > 0 {
		return subtract(root, magnitude{1})
	}
	return root
}
