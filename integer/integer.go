// Package integer implements integers of any size (layer 1): see shared/doc/01-integer.md.
package integer

import (
	"slices"

	"setsquare/api"
)

// maxExponent is the greatest exponent of Pow.
const maxExponent = 4096

// signed returns an integer in normal form. It keeps m.
func signed(negative bool, m magnitude) api.Int {
	if len(m) == 0 {
		return api.Int{}
	}
	return api.Int{Neg: negative, Mag: m}
}

// FromInt returns an integer.
func FromInt(n int64) api.Int {
	value := uint64(n)
	if n < 0 {
		// Unsigned, because -n is too great for an int64 if n is -2^63.
		value = -value
	}
	return signed(n < 0, fromUint(value))
}

// Int64 returns the value, and whether it fits.
func Int64(a api.Int) (int64, bool) {
	m := trim(a.Mag)
	if len(m) > 2 {
		return 0, false
	}
	value := toUint(m)
	switch {
	case a.Neg && value <= 1<<63:
		return int64(-value), true
	case !a.Neg && value < 1<<63:
		return int64(value), true
	}
	return 0, false
}

// Valid reports whether a is in normal form.
func Valid(a api.Int) bool {
	if len(a.Mag) == 0 {
		return !a.Neg
	}
	return a.Mag[len(a.Mag)-1] != 0
}

// Norm returns the normal form.
func Norm(a api.Int) api.Int { return signed(a.Neg, slices.Clone(trim(a.Mag))) }

// Sign returns -1, 0 or 1.
func Sign(a api.Int) int {
	switch {
	case len(trim(a.Mag)) == 0:
		return 0
	case a.Neg:
		return -1
	}
	return 1
}

// Cmp returns -1, 0 or 1.
func Cmp(a, b api.Int) int {
	s, t := Sign(a), Sign(b)
	switch {
	case s < t:
		return -1
	case s > t:
		return 1
	}
	return s * compare(trim(a.Mag), trim(b.Mag))
}

// Add returns a + b.
func Add(a, b api.Int) api.Int {
	x, y := trim(a.Mag), trim(b.Mag)
	switch {
	case a.Neg == b.Neg:
		return signed(a.Neg, add(x, y))
	case compare(x, y) < 0:
		return signed(b.Neg, subtract(y, x))
	}
	return signed(a.Neg, subtract(x, y))
}

// Sub returns a - b.
func Sub(a, b api.Int) api.Int {
	b.Neg = !b.Neg
	return Add(a, b)
}

// Neg returns -a.
func Neg(a api.Int) api.Int { return signed(!a.Neg, slices.Clone(trim(a.Mag))) }

// Mul returns a times b.
func Mul(a, b api.Int) api.Int {
	return signed(a.Neg != b.Neg, multiply(trim(a.Mag), trim(b.Mag)))
}

// DivMod returns the quotient, rounded down, and the remainder, which has the sign of b.
func DivMod(a, b api.Int) (api.Int, api.Int, api.Errno) {
	x, y := trim(a.Mag), trim(b.Mag)
	if len(y) == 0 {
		return api.Int{}, api.Int{}, api.ErrZero
	}
	quotient, rest := divide(x, y)
	opposite := a.Neg != b.Neg
	if opposite && len(rest) > 0 {
		// A negative quotient is rounded down if its absolute value is rounded up.
		quotient, rest = add(quotient, magnitude{1}), subtract(y, rest)
	}
	return signed(opposite, quotient), signed(b.Neg, rest), api.OK
}

// GCD returns the greatest common divisor.
func GCD(a, b api.Int) api.Int { return signed(false, commonDivisor(trim(a.Mag), trim(b.Mag))) }

// Pow returns the power of a.
func Pow(a api.Int, n int) (api.Int, api.Errno) {
	if n < 0 || n > maxExponent {
		return api.Int{}, api.ErrInvalid
	}
	return signed(a.Neg && n%2 == 1, power(trim(a.Mag), n)), api.OK
}

// Sqrt returns the square root, rounded down.
func Sqrt(a api.Int) (api.Int, api.Errno) {
	if Sign(a) < 0 {
		return api.Int{}, api.ErrNegative
	}
	return signed(false, squareRoot(trim(a.Mag))), api.OK
}

// Bits returns the number of binary digits of the absolute value.
func Bits(a api.Int) int { return binaryDigits(trim(a.Mag)) }
