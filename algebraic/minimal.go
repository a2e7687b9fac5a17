package algebraic

import (
	"setsquare/api"
	"setsquare/number"
	"setsquare/polynomial"
	"setsquare/rational"
)

// A compound is a polynomial whose coefficients are elements of a tower. It is written as such an element (layer 6), but
// with polynomials of layer 4 in the place of rational numbers.
type compound [][]api.Rat

// Minimal returns the minimal polynomial.
func Minimal(a api.Number) []api.Rat {
	if !number.Valid(a) {
		return nil
	}
	f := linear(a.Coefs)
	for t := a.Radicands; len(t) > 0; t = t[:len(t)-1] {
		f = f.below(t)
	}
	return f[0]
}

// linear returns X - a.
func linear(a []api.Rat) compound {
	f := constant(a)
	for p := range f {
		f[p] = polynomial.Scale(f[p], rational.FromInt(-1))
	}
	f[0] = polynomial.Add(f[0], []api.Rat{rational.FromInt(0), rational.FromInt(1)})
	return f
}

// constant returns an element as a polynomial.
func constant(a []api.Rat) compound {
	var f compound
	for _, c := range a {
		f = append(f, polynomial.Trim([]api.Rat{c}))
	}
	return f
}

// below returns the irreducible polynomial of the tower without the last radicand that has all roots of f, an irreducible
// polynomial of the whole tower. (The leading coefficients are 1.) Unless f belongs to the tower below, it is the product
// of f and its conjugate: these are two different irreducible polynomials, and a polynomial of the tower below that one of
// them divides is divided by both.
func (f compound) below(t [][]api.Rat) compound {
	a, b := f.halves()
	if b.zero() {
		return a
	}
	rest, last := split(t)
	return a.times(a, rest).minus(b.times(b, rest).times(last, rest))
}

// times returns f g, where t is the tower of their coefficients.
func (f compound) times(g compound, t [][]api.Rat) compound {
	switch {
	case f.zero() || g.zero():
		return make(compound, len(f))
	case len(f) == 1:
		return compound{polynomial.Mul(f[0], g[0])}
	}
	// (a + b s) (c + d s) = a c + b d s s + (a d + b c) s
	a, b := f.halves()
	c, d := g.halves()
	rest, last := split(t)
	low := a.times(c, rest).plus(b.times(d, rest).times(last, rest))
	return append(low, a.times(d, rest).plus(b.times(c, rest))...)
}

// split returns a tower without its last radicand, and this radicand as a polynomial.
func split(t [][]api.Rat) ([][]api.Rat, compound) {
	rest, last := t[:len(t)-1], t[len(t)-1]
	return rest, constant(last)
}

// halves returns a and b for f = a + b s, where s is the last square root.
func (f compound) halves() (compound, compound) { return f[:len(f)/2], f[len(f)/2:] }

// zero reports whether f is 0.
func (f compound) zero() bool {
	for _, a := range f {
		if len(a) > 0 {
			return false
		}
	}
	return true
}

// plus returns f + g.
func (f compound) plus(g compound) compound { return f.pairwise(g, polynomial.Add) }

// minus returns f - g.
func (f compound) minus(g compound) compound { return f.pairwise(g, polynomial.Sub) }

// pairwise returns the results of an operation on the coefficients of f and g.
func (f compound) pairwise(g compound, operation func(a, b []api.Rat) []api.Rat) compound {
	result := make(compound, len(f))
	for p := range f {
		result[p] = operation(f[p], g[p])
	}
	return result
}
