package sturm

import (
	"setsquare/api"
	"setsquare/interval"
	"setsquare/polynomial"
	"setsquare/rational"
)

// A bracket is an interval that contains one root of a polynomial, which is simple. It knows the values at its ends:
// that at High is 0 if High is the root, and otherwise it has the sign of the values between the root and High; that at
// Low has the other sign, or is 0 if Low is another root.
type bracket struct {
	poly      []api.Rat
	ends      api.Interval
	low, high api.Rat
}

// bracketOf returns the bracket of an interval.
func bracketOf(a []api.Rat, i api.Interval) *bracket {
	return &bracket{a, i, polynomial.Eval(a, i.Low), polynomial.Eval(a, i.High)}
}

// narrow makes the bracket narrower until its width is at most that given, or High is the root. It divides the bracket
// into cells and tries the one in which the root would be if the polynomial were linear. After a success the number of
// cells is squared, so that the digits of the root that are known double; after a failure it is what it was before.
// With two cells there is no failure (Abbott's quadratic interval refinement).
func (b *bracket) narrow(width api.Rat) {
	cells := []api.Rat{rational.FromInt(2)}
	for rational.Sign(b.high) != 0 && rational.Cmp(interval.Width(b.ends), width) > 0 {
		last := cells[len(cells)-1]
		if b.guess(last) {
			cells = append(cells, rational.Mul(last, last))
		} else {
			cells = cells[:len(cells)-1]
		}
	}
}

// guess divides the bracket into cells, and reports whether it now is the one that the values at its ends suggest.
func (b *bracket) guess(cells api.Rat) bool {
	size, _ := rational.Div(interval.Width(b.ends), cells)
	part, _ := rational.Div(b.low, rational.Sub(b.low, b.high))
	number := whole(rational.Floor(rational.Mul(part, cells)))
	low := rational.Add(b.ends.Low, rational.Mul(number, size))
	b.cut(low)
	b.cut(rational.Add(low, size))
	return rational.Cmp(interval.Width(b.ends), size) <= 0
}

// cut cuts off what lies on the other side of x than the root, if x lies between the ends.
func (b *bracket) cut(x api.Rat) {
	if rational.Cmp(x, b.ends.Low) <= 0 || rational.Cmp(x, b.ends.High) >= 0 {
		return
	}
	value := polynomial.Eval(b.poly, x)
	if rational.Sign(value)*rational.Sign(b.high) < 0 {
		b.ends.Low, b.low = x, value
	} else {
		b.ends.High, b.high = x, value
	}
}
