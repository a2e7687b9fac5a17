package interval

import (
	"setsquare/api"
	"setsquare/integer"
	"setsquare/rational"
)

// MaxBits is the greatest precision.
const MaxBits = 4096

// isPrecision reports whether bits is from 0 to MaxBits.
func isPrecision(bits int) bool { return 0 <= bits && bits <= MaxBits }

// power returns the power of a small number; the exponent is from 0 to MaxBits.
func power(base int64, exponent int) api.Int {
	p, _ := integer.Pow(integer.FromInt(base), exponent)
	return p
}

// down returns the greatest integer that is at most x times scale.
func down(x api.Rat, scale api.Int) api.Int {
	n, _, _ := integer.DivMod(integer.Mul(x.Num, scale), x.Den)
	return n
}

// up returns the least integer that is at least x times scale.
func up(x api.Rat, scale api.Int) api.Int { return integer.Neg(down(rational.Neg(x), scale)) }

// rootDown returns the greatest integer whose square is at most n, which is not negative.
func rootDown(n api.Int) api.Int {
	r, _ := integer.Sqrt(n)
	return r
}

// rootUp returns the least integer that is not negative and whose square is at least n.
func rootUp(n api.Int) api.Int {
	r := rootDown(n)
	if integer.Cmp(integer.Mul(r, r), n) < 0 {
		return integer.Add(r, integer.FromInt(1))
	}
	return r
}

// between returns the interval from low to high, divided by scale, which is not 0.
func between(low, high, scale api.Int) api.Interval {
	a, _ := rational.Make(low, scale)
	b, _ := rational.Make(high, scale)
	return api.Interval{Low: a, High: b}
}

// Sqrt returns an interval that contains the square roots, with ends that are multiples of 2^-bits.
func Sqrt(a api.Interval, bits int) (api.Interval, api.Errno) {
	switch {
	case !isPrecision(bits):
		return api.Interval{}, api.ErrInvalid
	case rational.Sign(a.Low) < 0:
		return api.Interval{}, api.ErrNegative
	}
	// The square of a multiple of 2^-bits is an integer divided by 4^bits.
	square := power(4, bits)
	return between(rootDown(down(a.Low, square)), rootUp(up(a.High, square)), power(2, bits)), api.OK
}

// Round returns the least interval with ends that are multiples of 2^-bits.
func Round(a api.Interval, bits int) api.Interval {
	if !isPrecision(bits) {
		return api.Interval{}
	}
	scale := power(2, bits)
	return between(down(a.Low, scale), up(a.High, scale), scale)
}
