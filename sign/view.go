package sign

import (
	"setsquare/api"
	"setsquare/integer"
	"setsquare/rational"
	"setsquare/tower"
)

// wordBits is the number of binary digits of a word of an integer.
const wordBits = 32

// bounds contain a number: they are the numerators of its bounds over a denominator that a view defines.
type bounds struct{ low, high api.Int }

// A view encloses elements of a tower by bounds over the denominator 2^(32 words). It keeps the bounds of the square
// roots that were needed so far.
type view struct {
	tower [][]api.Rat
	words int
	roots map[int]bounds
}

// enclose returns bounds of an element of the tower of the first radicands.
func (v view) enclose(a []api.Rat) bounds {
	if len(a) == 1 {
		return v.rational(a[0])
	}
	low, high := halves(a)
	if tower.Zero(high) {
		return v.enclose(low)
	}
	return v.enclose(low).plus(v.enclose(high).times(v.root(height(high)), v.words))
}

// rational returns the bounds of a rational number.
func (v view) rational(c api.Rat) bounds {
	low, rest, _ := integer.DivMod(raise(c.Num, v.words), c.Den)
	if integer.Sign(rest) == 0 {
		return bounds{low, low}
	}
	return bounds{low, integer.Add(low, integer.FromInt(1))}
}

// root returns the bounds of the square root of radicand number i, which is positive.
func (v view) root(i int) bounds {
	b, ok := v.roots[i]
	if !ok {
		b = v.enclose(v.tower[i]).root(v.words)
		v.roots[i] = b
	}
	return b
}

// plus returns the bounds of a sum.
func (b bounds) plus(c bounds) bounds {
	return bounds{integer.Add(b.low, c.low), integer.Add(b.high, c.high)}
}

// times returns the bounds of a product with a number that is not negative.
func (b bounds) times(c bounds, words int) bounds {
	least, greatest := c.low, c.high
	if integer.Sign(b.low) < 0 {
		least = c.high
	}
	if integer.Sign(b.high) < 0 {
		greatest = c.low
	}
	return bounds{down(integer.Mul(b.low, least), words), up(integer.Mul(b.high, greatest), words)}
}

// root returns the bounds of the square root of a number that is not negative.
func (b bounds) root(words int) bounds {
	// The lower bound of the number may be negative; then Sqrt returns 0.
	low, _ := integer.Sqrt(raise(b.low, words))
	square := raise(b.high, words)
	high, _ := integer.Sqrt(square)
	if integer.Cmp(integer.Mul(high, high), square) < 0 {
		high = integer.Add(high, integer.FromInt(1))
	}
	return bounds{low, high}
}

// interval returns the interval between the bounds.
func (b bounds) interval(words int) api.Interval {
	den := raise(integer.FromInt(1), words)
	low, _ := rational.Make(b.low, den)
	high, _ := rational.Make(b.high, den)
	return api.Interval{Low: low, High: high}
}

// raise returns n times 2^(32 words); 0 is not in normal form.
func raise(n api.Int, words int) api.Int {
	return api.Int{Neg: n.Neg, Mag: append(make([]uint32, words), n.Mag...)}
}

// down returns the greatest integer that is at most n / 2^(32 words).
func down(n api.Int, words int) api.Int {
	k := min(words, len(n.Mag))
	quotient := api.Int{Neg: n.Neg, Mag: n.Mag[k:]}
	if n.Neg && integer.Sign(api.Int{Mag: n.Mag[:k]}) > 0 {
		return integer.Sub(quotient, integer.FromInt(1))
	}
	return quotient
}

// up returns the least integer that is at least n / 2^(32 words).
func up(n api.Int, words int) api.Int {
	n.Neg = !n.Neg
	return integer.Neg(down(n, words))
}
