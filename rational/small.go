package rational

import (
	"setsquare/api"
	"setsquare/integer"
)

// smallLimit is so small that sums of two products of small numbers fit into an int64.
const smallLimit = 1 << 31

// A small number has a numerator and a denominator with absolute values below smallLimit; the denominator is
// positive. Most numbers are small, and computing with them is much faster.
type small struct{ num, den int64 }

// toSmall returns a number that is small, or false.
func toSmall(a api.Rat) (small, bool) {
	if len(a.Num.Mag) > 1 || len(a.Den.Mag) != 1 {
		return small{}, false
	}
	num, _ := integer.Int64(a.Num)
	den, _ := integer.Int64(a.Den)
	return small{num, den}, -smallLimit < num && num < smallLimit && 0 < den && den < smallLimit
}

// smallPair returns two numbers that are both small, or false.
func smallPair(a, b api.Rat) (small, small, bool) {
	x, ok := toSmall(a)
	if !ok {
		return small{}, small{}, false
	}
	y, ok := toSmall(b)
	return x, y, ok
}

// plus returns x + y.
func (x small) plus(y small) api.Rat { return lowest(x.num*y.den+y.num*x.den, x.den*y.den) }

// times returns x times y.
func (x small) times(y small) api.Rat { return lowest(x.num*y.num, x.den*y.den) }

// lowest returns num divided by den, which is positive, in lowest terms.
func lowest(num, den int64) api.Rat {
	common := commonDivisor(den, num)
	return api.Rat{Num: integer.FromInt(num / common), Den: integer.FromInt(den / common)}
}

// commonDivisor returns the greatest common divisor of a, which is positive, and b.
func commonDivisor(a, b int64) int64 {
	for b != 0 {
		a, b = b, a%b
	}
	return max(a, -a)
}
