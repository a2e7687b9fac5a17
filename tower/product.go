package tower

import (
	"setsquare/api"
	"setsquare/integer"
	"setsquare/rational"
)

// height returns the number of the first radicands whose square roots an element needs.
func height(a []api.Rat) int {
	h := 0
	for !Zero(a[1<<h:]) {
		h++
	}
	return h
}

// lift returns an element as one with a greater number of coefficients, in the same memory.
func lift(a []api.Rat, n int) []api.Rat { return append(a, zeros(n-len(a))...) }

// Mul returns a times b.
func Mul(t [][]api.Rat, a, b []api.Rat) []api.Rat {
	if !formed(t, a, b) {
		return nil
	}
	h, k := height(a), height(b)
	switch {
	case h == 0:
		return each(b, func(c api.Rat) api.Rat { return rational.Mul(a[0], c) })
	case k == 0:
		return each(a, func(c api.Rat) api.Rat { return rational.Mul(c, b[0]) })
	}
	g := ringOf(t[:max(h, k)])
	x, denA := g.split(a[:len(g.factors)])
	y, denB := g.split(b[:len(g.factors)])
	return lift(g.join(g.times(x, y), integer.Mul(denA, denB)), len(a))
}

// Norm returns the product of a and its conjugate with the opposite last square root.
func Norm(t [][]api.Rat, a []api.Rat) []api.Rat {
	if len(t) == 0 || !formed(t, a) {
		return nil
	}
	g := ringOf(t)
	nums, den := g.split(a)
	return g.join(g.norm(nums), integer.Mul(den, den))
}
