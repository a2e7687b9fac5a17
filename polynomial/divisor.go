package polynomial

import (
	"setsquare/api"
	"setsquare/integer"
	"setsquare/rational"
	"setsquare/residue"
)

// GCD returns the greatest common divisor with the leading coefficient 1.
func GCD(a, b []api.Rat) []api.Rat {
	divisor := commonDivisor(Primitive(a), Primitive(b))
	if len(divisor) == 0 {
		return nil
	}
	return join(divisor, last(divisor))
}

// Squarefree returns the polynomial with the leading coefficient 1 and the same roots, each one simple.
func Squarefree(a []api.Rat) []api.Rat {
	quotient, _, _ := DivMod(a, GCD(a, Derivative(a)))
	if len(quotient) == 0 {
		return nil
	}
	factor, _ := rational.Div(rational.FromInt(1), last(quotient))
	return Scale(quotient, factor)
}

// commonDivisor returns the greatest common divisor of polynomials with coprime coefficients; it has coprime
// coefficients too. It is found from the divisors modulo primes: in the Euclidean algorithm with integers, the
// coefficients would become very long.
func commonDivisor(a, b []api.Int) []api.Int {
	switch {
	case len(a) == 0:
		return b
	case len(b) == 0:
		return a
	}
	// The leading coefficient of the divisor divides this one.
	lead := integer.GCD(last(a), last(b))
	var found image
	// The loop ends: the divisor modulo a prime has a greater degree for some primes only, and the coefficients of
	// the divisor are found as soon as the product of the other primes is great enough.
	for p := primeBelow(residue.Limit); ; p = primeBelow(p) {
		factor := residue.Of(lead, p)
		if factor == 0 {
			continue
		}
		common := commonResidues(residues(a, p), residues(b, p), p)
		if len(common) == 1 {
			return []api.Int{integer.FromInt(1)}
		}
		if !found.include(multiply(common, factor, p), p) {
			continue
		}
		if divisor := primitive(found.coefs); divides(divisor, a) && divides(divisor, b) {
			return divisor
		}
	}
}

// An image is a polynomial whose residues modulo some primes are known: it has the coefficients with the least
// absolute values, of which those are the residues. The modulus is the product of the primes.
type image struct {
	coefs   []api.Int
	modulus api.Int
}

// include adds the residues modulo another prime, and reports whether the coefficients had them already. Residues of
// a greater degree than those before are ignored; if they have a smaller degree, those before are given up.
func (m *image) include(coefs []uint64, p uint64) bool {
	if len(m.coefs) == 0 || len(coefs) < len(m.coefs) {
		*m = image{make([]api.Int, len(coefs)), integer.FromInt(1)}
	}
	if len(coefs) > len(m.coefs) {
		return false
	}
	same := true
	factor := residue.Inverse(residue.Of(m.modulus, p), p)
	for i, c := range coefs {
		difference := (c + p - residue.Of(m.coefs[i], p)) * factor % p
		if difference != 0 {
			same = false
			m.coefs[i] = integer.Add(m.coefs[i], integer.Mul(m.modulus, least(difference, p)))
		}
	}
	m.modulus = integer.Mul(m.modulus, integer.FromInt(int64(p)))
	return same
}
