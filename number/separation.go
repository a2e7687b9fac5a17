package number

import (
	"setsquare/api"
	"setsquare/rational"
	"setsquare/sign"
	"setsquare/tower"
)

// Two numbers without a common tower with at most MaxHeight radicands are compared by their values: they are equal if they
// are nearer to one another than different numbers of such towers can be.
//
// Let the difference of two numbers have a degree of at most d over the rational numbers, its product with the integer q
// be an algebraic integer, and its conjugates (the values for other choices of the signs of the square roots) have
// absolute values of at most b. The product of all conjugates of q times the difference is an integer. So its absolute
// value is at least 1 if the difference is not 0, and that of the difference is at least 1 / (q b)^d.

// A measure says that an element times the integer den is an algebraic integer, and that the absolute values of its
// conjugates are at most size, an integer that is not 0.
type measure struct{ den, size api.Rat }

// lowDegree is the degree of a difference up to which it takes less time to compare values than to look for polynomials.
const lowDegree = 1 << 10

// equalValues reports whether the values of two numbers are equal.
func equalValues(a, b api.Number) bool {
	if !equalFloors(a, b, power(rational.FromInt(2), 512)) {
		// Different numbers are nearly always found out here.
		return false
	}
	degree := 1 << heightBound(a, b)
	for d := 2; d*d < degree && degree > lowDegree; d *= 2 {
		if f, ok := annihilator(a, d); ok {
			if !tower.Zero(valueAt(f, b)) {
				return false
			}
			degree = d * d
		}
	}
	return equalFloors(a, b, separation(a, b, degree))
}

// power returns the power of a rational number for an exponent that is a power of 2.
func power(c api.Rat, exponent int) api.Rat {
	for ; exponent > 1; exponent /= 2 {
		c = rational.Mul(c, c)
	}
	return c
}

// firstPrecision is the factor for the first comparison.
const firstPrecision = 1 << 62

// equalFloors reports whether the products of two numbers with factors up to a limit have the same integer parts.
func equalFloors(a, b api.Number, limit api.Rat) bool {
	factor := rational.FromInt(firstPrecision)
	for {
		if rational.Cmp(factor, limit) > 0 {
			factor = limit
		}
		if !sameInt(floor(a, factor), floor(b, factor)) {
			return false
		}
		if rational.Cmp(factor, limit) == 0 {
			return true
		}
		factor = rational.Mul(factor, factor)
	}
}

// floor returns the greatest integer that is not greater than the product of a number and a rational number.
func floor(a api.Number, factor api.Rat) api.Int {
	var product []api.Rat
	for _, c := range a.Coefs {
		product = append(product, rational.Mul(c, factor))
	}
	return sign.Floor(a.Radicands, product)
}

// separation returns a number whose product with the difference of two numbers is at least 1 or at most -1 if it is not 0.
// The degree of the difference is at most degree, a power of 2.
func separation(a, b api.Number, degree int) api.Rat {
	x, y := measureOf(a), measureOf(b)
	return power(rational.Mul(rational.Mul(x.den, y.den), rational.Add(x.size, y.size)), degree)
}

// heightBound returns a number that is not less than the height of the list of two numbers.
func heightBound(a, b api.Number) int {
	u, missing := unionOf(a.Radicands), 0
	for i := range b.Radicands {
		s := set(1 << i).needed(b.Radicands)
		if _, e := u.include(kept(b.Radicands, s)); e != api.OK {
			missing++
		}
	}
	return len(u.tower) + missing
}

// measureOf returns a measure of a number.
func measureOf(a api.Number) measure {
	var roots []measure
	for _, r := range a.Radicands {
		// A measure of the radicand is one of its square root s, too: den s is an algebraic integer, because its square
		// is den times den r; and the square root of an integer that is not 0 is at most this integer.
		roots = append(roots, elementMeasure(r, roots))
	}
	return elementMeasure(a.Coefs, roots)
}

// elementMeasure returns a measure of an element, given those of the square roots.
func elementMeasure(a []api.Rat, roots []measure) measure {
	m := measure{rational.FromInt(1), rational.FromInt(1)}
	for p, c := range a {
		size := c
		if rational.Sign(c) < 0 {
			size = rational.Neg(c)
		}
		for i, w := range roots {
			if set(p).has(i) {
				size = rational.Mul(size, w.size)
			}
		}
		m.size = rational.Add(m.size, size)
		m.den = commonMultiple(m.den, api.Rat{Num: c.Den, Den: m.den.Den})
	}
	// This integer is greater than the sum, because 1 was added to it.
	m.size, _ = rational.Make(rational.Floor(m.size), rational.FromInt(1).Num)
	for i, w := range roots {
		if factors(a).has(i) {
			m.den = rational.Mul(m.den, w.den)
		}
	}
	return m
}

// commonMultiple returns the least common multiple of two positive integers.
func commonMultiple(a, b api.Rat) api.Rat {
	quotient, _ := rational.Div(a, b)
	return rational.Mul(api.Rat{Num: quotient.Num, Den: b.Den}, b)
}
