package polynomial

import (
	"slices"

	"setsquare/api"
	"setsquare/integer"
	"setsquare/rational"
)

// DivMod returns the quotient and the remainder.
func DivMod(a, b []api.Rat) ([]api.Rat, []api.Rat, api.Errno) {
	x, denA := split(a)
	y, denB := split(b)
	if len(y) == 0 {
		return nil, nil, api.ErrZero
	}
	quotient, rest, scale := divide(x, y)
	factor, _ := rational.Make(denB, denA)
	return Scale(quotient, factor), join(rest, integer.Mul(scale, denA)), api.OK
}

// divide returns the quotient of a and b, which is not 0, and the remainder times scale, which is not 0 either.
func divide(a, b []api.Int) (quotient []api.Rat, rest []api.Int, scale api.Int) {
	rest, scale = slices.Clone(a), integer.FromInt(1)
	quotient = make([]api.Rat, max(0, len(a)-len(b)+1))
	lead, others := last(b), b[:len(b)-1]
	for i := range slices.Backward(quotient) {
		top := rest[i+len(others)]
		rest = rest[:i+len(others)]
		quotient[i], _ = rational.Make(top, integer.Mul(scale, lead))
		// The least multiple of the rest from which an integer multiple of b can be subtracted.
		common := integer.GCD(top, lead)
		factor := exact(lead, common)
		scale = integer.Mul(scale, factor)
		for j, c := range rest {
			rest[j] = integer.Mul(c, factor)
		}
		multiple := exact(top, common)
		for j, c := range others {
			rest[i+j] = integer.Sub(rest[i+j], integer.Mul(c, multiple))
		}
	}
	return quotient, cut(rest, integer.Sign), scale
}

// divides reports whether b, which is not 0, divides a.
func divides(b, a []api.Int) bool {
	_, rest, _ := divide(a, b)
	return len(rest) == 0
}
