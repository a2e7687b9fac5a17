package algebraic

import (
	"setsquare/api"
	"setsquare/integer"
	"setsquare/interval"
	"setsquare/polynomial"
	"setsquare/rational"
	"setsquare/sturm"
)

// A value is a root of a polynomial, all of whose roots are simple: the only one that an interval contains. It contains
// numbers as in layer 5: they are greater than Low and at most High.
type value struct {
	poly []api.Rat
	ends api.Interval
}

// valueOf returns the value of a form, and whether the form is valid.
func valueOf(a api.Algebraic) (value, bool) {
	if a.Root < 0 || a.Root >= len(a.Poly)-1 || !primitive(a.Poly) {
		return value{}, false
	}
	f := rationals(a.Poly)
	if polynomial.Degree(polynomial.GCD(f, polynomial.Derivative(f))) > 0 {
		return value{}, false
	}
	roots := sturm.Isolate(f)
	if a.Root >= len(roots) {
		return value{}, false
	}
	return value{f, roots[a.Root]}, true
}

// primitive reports whether the integers of a list, which is not empty, are in normal form and have no common divisor
// greater than 1, and the last one is positive.
func primitive(l []api.Int) bool {
	var common api.Int
	for _, n := range l {
		if !integer.Valid(n) {
			return false
		}
		common = integer.GCD(common, n)
	}
	return integer.Sign(l[len(l)-1]) > 0 && integer.Cmp(common, integer.FromInt(1)) == 0
}

// rationals returns integers as rational numbers.
func rationals(l []api.Int) []api.Rat {
	var result []api.Rat
	for _, n := range l {
		c, _ := rational.Make(n, integer.FromInt(1))
		result = append(result, c)
	}
	return result
}

// refined returns the value with an interval that is not wider than a positive number.
func (v value) refined(width api.Rat) value {
	// There is no error, because the interval contains one root.
	ends, _ := sturm.Refine(v.poly, v.ends, width)
	return value{v.poly, ends}
}

// cmp returns the sign of v - w.
func (v value) cmp(w value) int {
	if s := v.clearOrder(w); s != 0 {
		return s
	}
	if v.equal(w) {
		return 0
	}
	for width := rational.Frac(1, 2); ; width = rational.Mul(width, width) {
		v, w = v.refined(width), w.refined(width)
		if s := v.clearOrder(w); s != 0 {
			return s
		}
	}
}

// clearOrder returns the sign of v - w if the intervals show it, and otherwise 0.
func (v value) clearOrder(w value) int {
	switch {
	case rational.Cmp(v.ends.High, w.ends.Low) <= 0:
		return -1
	case rational.Cmp(w.ends.High, v.ends.Low) <= 0:
		return 1
	}
	return 0
}

// equal reports whether two values are equal: a common root of both polynomials that both intervals contain is the root
// that each of them contains.
func (v value) equal(w value) bool {
	common := polynomial.GCD(v.poly, w.poly)
	both, ok := interval.Meet(v.ends, w.ends)
	return ok && sturm.Count(common, both.Low, both.High) > 0
}
