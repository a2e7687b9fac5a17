package tower

import (
	"math/bits"

	"setsquare/api"
	"setsquare/integer"
	"setsquare/rational"
)

// A ring is a tower whose radicands have integer coefficients: each of its square roots is that of another tower times
// a factor. Products and inverses are computed there, because an operation on rational numbers looks for common
// divisors each time, which takes longer than the operation. An element of the other tower corresponds to an element
// of the ring over a common denominator.
type ring struct {
	radicands [][]api.Int
	factors   []api.Int // number p: the product of the factors of the square roots that coefficient number p belongs to
}

// ringOf returns the ring of a tower.
func ringOf(t [][]api.Rat) ring {
	g := ring{factors: []api.Int{integer.FromInt(1)}}
	for _, r := range t {
		// The square of the square root times den is r times den times den.
		nums, den := g.split(r)
		g.radicands = append(g.radicands, multiple(nums, den))
		g.factors = append(g.factors, multiple(g.factors, den)...)
	}
	return g
}

// split returns the numerators of an element over a common denominator, and this denominator.
func (g ring) split(a []api.Rat) ([]api.Int, api.Int) {
	parts := make([]api.Rat, len(a))
	den := integer.FromInt(1)
	for p, c := range a {
		parts[p] = c
		if !isOne(g.factors[p]) {
			parts[p], _ = rational.Make(c.Num, integer.Mul(c.Den, g.factors[p]))
		}
		if integer.Cmp(parts[p].Den, den) != 0 {
			den = integer.Mul(den, exact(parts[p].Den, integer.GCD(den, parts[p].Den)))
		}
	}
	nums := make([]api.Int, len(a))
	for p, c := range parts {
		nums[p] = c.Num
		if factor := exact(den, c.Den); !isOne(factor) {
			nums[p] = integer.Mul(c.Num, factor)
		}
	}
	return nums, den
}

// join returns the element with some numerators over a common denominator, in new memory.
func (g ring) join(nums []api.Int, den api.Int) []api.Rat {
	a := make([]api.Rat, len(nums))
	for p, n := range nums {
		if !isOne(g.factors[p]) {
			n = integer.Mul(n, g.factors[p])
		}
		a[p], _ = rational.Make(n, den)
	}
	return a
}

// isOne reports whether an integer in normal form is 1.
func isOne(n api.Int) bool { return !n.Neg && len(n.Mag) == 1 && n.Mag[0] == 1 }

// exact returns a divided by its divisor b; this is a itself, not a copy, if b is 1.
func exact(a, b api.Int) api.Int {
	if isOne(b) {
		return a
	}
	quotient, _, _ := integer.DivMod(a, b)
	return quotient
}

// none reports whether an element is 0.
func none(a []api.Int) bool {
	for _, c := range a {
		if integer.Sign(c) != 0 {
			return false
		}
	}
	return true
}

// plus returns a + b.
func plus(a, b []api.Int) []api.Int { return pairwise(a, b, integer.Add) }

// minus returns a - b.
func minus(a, b []api.Int) []api.Int { return pairwise(a, b, integer.Sub) }

// multiple returns n a; this is a itself, not a copy, if n is 1.
func multiple(a []api.Int, n api.Int) []api.Int {
	if isOne(n) {
		return a
	}
	return each(a, func(c api.Int) api.Int { return integer.Mul(c, n) })
}

// halves returns a and b for the element a + b s, where s is the last square root.
func halves(a []api.Int) ([]api.Int, []api.Int) { return a[:len(a)/2], a[len(a)/2:] }

// last returns the last radicand of the tower of an element that has this half.
func (g ring) last(half []api.Int) []api.Int { return g.radicands[bits.Len(uint(len(half)))-1] }

// denseLength is the number of coefficients from which dense looks at elements: three products of halves, but more
// sums, are faster than four products only if the halves are long and contain few zeros.
const denseLength = 8

// dense reports whether an element is long, and most of its coefficients are not 0.
func dense(a []api.Int) bool {
	n := 0
	for _, c := range a {
		if integer.Sign(c) != 0 {
			n++
		}
	}
	return len(a) >= denseLength && 2*n > len(a)
}

// times returns a b.
func (g ring) times(a, b []api.Int) []api.Int {
	switch {
	case len(a) == 1:
		return []api.Int{integer.Mul(a[0], b[0])}
	case none(a) || none(b):
		return make([]api.Int, len(a))
	}
	a0, a1 := halves(a)
	b0, b1 := halves(b)
	low, high := g.times(a0, b0), g.times(a1, b1)
	var middle []api.Int
	if dense(a) && dense(b) {
		middle = minus(minus(g.times(plus(a0, a1), plus(b0, b1)), low), high)
	} else {
		middle = plus(g.times(a0, b1), g.times(a1, b0))
	}
	return append(plus(low, g.times(high, g.last(high))), middle...)
}

// norm returns a a - b b r for the element a + b s, where s is the square root of r, the last radicand.
func (g ring) norm(a []api.Int) []api.Int {
	a0, a1 := halves(a)
	return minus(g.times(a0, a0), g.times(g.times(a1, a1), g.last(a1)))
}
