package tower

import (
	"setsquare/api"
	"setsquare/integer"
)

// Inv returns the inverse.
func Inv(t [][]api.Rat, a []api.Rat) ([]api.Rat, api.Errno) {
	if !formed(t, a) {
		return nil, api.ErrInvalid
	}
	h := height(a)
	g := ringOf(t[:h])
	nums, den := g.split(a[:1<<h])
	inverse, product := g.inverse(nums)
	if integer.Sign(product) == 0 {
		return nil, api.ErrZero
	}
	return lift(g.join(multiple(inverse, den), product), len(a)), api.OK
}

// inverse returns an element and its product with a, which is an integer that is not 0. If a has no inverse, it
// returns 0 as the product.
func (g ring) inverse(a []api.Int) ([]api.Int, api.Int) {
	if len(a) == 1 {
		return []api.Int{integer.FromInt(1)}, a[0]
	}
	a0, a1 := halves(a)
	zero := make([]api.Int, len(a0))
	switch {
	case none(a1):
		inverse, product := g.inverse(a0)
		return append(inverse, zero...), product
	case none(a0):
		// The inverse of b s is s / (b r).
		inverse, product := g.inverse(g.times(a1, g.last(a1)))
		return append(zero, inverse...), product
	}
	// The norm is the product of a + b s and a - b s. Numbers grow long on the way, so common divisors are left out.
	norm := g.norm(a)
	content := commonDivisor(api.Int{}, norm)
	if integer.Sign(content) == 0 {
		return nil, api.Int{}
	}
	inverse, product := g.inverse(divided(norm, content))
	if integer.Sign(product) == 0 {
		return nil, api.Int{}
	}
	product = integer.Mul(product, content)
	inverse = append(g.times(a0, inverse), g.times(minus(zero, a1), inverse)...)
	common := commonDivisor(product, inverse)
	return divided(inverse, common), exact(product, common)
}

// commonDivisor returns the greatest common divisor of an integer and all coefficients of an element.
func commonDivisor(n api.Int, a []api.Int) api.Int {
	for _, c := range a {
		if isOne(n) {
			break
		}
		n = integer.GCD(n, c)
	}
	return n
}

// divided returns an element divided by a common divisor of its coefficients.
func divided(a []api.Int, divisor api.Int) []api.Int {
	return each(a, func(c api.Int) api.Int { return exact(c, divisor) })
}
