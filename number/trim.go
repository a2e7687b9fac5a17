package number

import (
	"setsquare/api"
	"setsquare/rational"
	"setsquare/tower"
)

// A set of radicands is an integer: binary digit number i is 1 if radicand number i belongs to it. So the number of a
// coefficient is the set of the radicands whose square roots it belongs to.
type set int

// has reports whether radicand number i belongs to a set.
func (s set) has(i int) bool { return s>>i&1 == 1 }

// contains reports whether a set contains another one.
func (s set) contains(other set) bool { return other&^s == 0 }

// factors returns the radicands whose square roots are factors of products in an element.
func factors(a []api.Rat) set {
	found := set(0)
	for p, c := range a {
		if rational.Sign(c) != 0 {
			found |= set(p)
		}
	}
	return found
}

// needed returns the radicands of a set, and those that occur in them.
func (s set) needed(t [][]api.Rat) set {
	for i := len(t) - 1; i >= 0; i-- {
		if s.has(i) {
			s |= factors(t[i])
		}
	}
	return s
}

// occurring returns the radicands that occur in an element.
func occurring(t [][]api.Rat, a []api.Rat) set { return factors(a).needed(t) }

// selected returns the coefficients for the products of the square roots of some radicands.
func (s set) selected(a []api.Rat) []api.Rat {
	var result []api.Rat
	for p, c := range a {
		if s.contains(set(p)) {
			result = append(result, c)
		}
	}
	return result
}

// kept returns the radicands of a tower that belong to a set.
func kept(t [][]api.Rat, s set) [][]api.Rat {
	var result [][]api.Rat
	for i, r := range t {
		if s.has(i) {
			result = append(result, s.selected(r))
		}
	}
	return result
}

// trimmed returns a number over the tower of the radicands that occur in it. It keeps the coefficients.
func trimmed(t [][]api.Rat, a []api.Rat) api.Number {
	s := occurring(t, a)
	return api.Number{Radicands: cloneTower(kept(t, s)), Coefs: s.selected(a)}
}

// shortened returns a number over a tower without the last radicands, as far as they do not occur in it. It keeps the
// coefficients. The other radicands stay even if they do not occur: so the results of operations in one tower have
// towers with which it begins, and no common tower has to be found for them.
func shortened(t [][]api.Rat, a []api.Rat) api.Number {
	for len(t) > 0 && tower.Zero(a[len(a)/2:]) {
		t, a = t[:len(t)-1], a[:len(a)/2]
	}
	return api.Number{Radicands: cloneTower(t), Coefs: a}
}
