package sturm

import (
	"setsquare/api"
	"setsquare/polynomial"
	"setsquare/rational"
)

// Chain returns the Sturm chain.
func Chain(a []api.Rat) [][]api.Rat {
	first := simple(a)
	if len(first) == 0 {
		return nil
	}
	one := rational.FromInt(1)
	before, last := linkOf(first, one), linkOf(polynomial.Derivative(first), one)
	chain := [][]api.Rat{before.value()}
	for {
		chain = append(chain, last.value())
		_, rest, _ := polynomial.DivMod(before.coefs, last.coefs)
		if len(rest) == 0 {
			return chain
		}
		before, last = last, linkOf(rest, rational.Neg(before.factor))
	}
}

// A link is a polynomial of a chain: coprime integers times a factor. The factors become so long that dividing the
// polynomials themselves would take far longer.
type link struct {
	coefs  []api.Rat
	factor api.Rat
}

// linkOf returns the link of a polynomial, which is not 0, times a factor.
func linkOf(a []api.Rat, factor api.Rat) link {
	coefs := primitive(a)
	content, _ := rational.Div(a[len(a)-1], coefs[len(coefs)-1])
	return link{coefs, rational.Mul(factor, content)}
}

// value returns the polynomial.
func (l link) value() []api.Rat { return polynomial.Scale(l.coefs, l.factor) }

// primitive returns the multiple of a polynomial whose coefficients are integers without a common divisor.
func primitive(a []api.Rat) []api.Rat {
	var coefs []api.Rat
	for _, n := range polynomial.Primitive(a) {
		coefs = append(coefs, whole(n))
	}
	return coefs
}

// whole returns an integer as a rational number. It keeps n.
func whole(n api.Int) api.Rat { return api.Rat{Num: n, Den: rational.FromInt(1).Den} }
