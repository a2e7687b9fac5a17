package number

import (
	"slices"

	"setsquare/api"
	"setsquare/rational"
	"setsquare/tower"
)

// The operations on elements have results in new memory. Those on sums do without package tower, which would examine
// each time whether all numbers of the tower are in normal form.

// sum returns a + b.
func sum(_ [][]api.Rat, a, b []api.Rat) []api.Rat { return pairwise(a, b, rational.Add) }

// difference returns a - b.
func difference(_ [][]api.Rat, a, b []api.Rat) []api.Rat { return pairwise(a, b, rational.Sub) }

// product returns a times b.
func product(t [][]api.Rat, a, b []api.Rat) []api.Rat {
	if len(t) == 0 {
		return pairwise(a, b, rational.Mul)
	}
	return tower.Mul(t, a, b)
}

// inverse returns 1 / a.
func inverse(t [][]api.Rat, a []api.Rat) ([]api.Rat, api.Errno) {
	if len(t) == 0 && len(a) == 1 {
		x, e := rational.Div(rational.FromInt(1), a[0])
		return []api.Rat{x}, e
	}
	return tower.Inv(t, a)
}

// opposite returns -a.
func opposite(a []api.Rat) []api.Rat {
	result := make([]api.Rat, len(a))
	for p, c := range a {
		result[p] = rational.Neg(c)
	}
	return result
}

// pairwise returns the results of an operation on the coefficients of two elements. They have the same lengths unless an
// argument is not valid.
func pairwise(a, b []api.Rat, operation func(x, y api.Rat) api.Rat) []api.Rat {
	result := make([]api.Rat, min(len(a), len(b)))
	for p := range result {
		result[p] = operation(a[p], b[p])
	}
	return result
}

// same reports whether two elements of a tower have the same coefficients.
func same(a, b []api.Rat) bool {
	return slices.EqualFunc(a, b, func(x, y api.Rat) bool { return sameInt(x.Num, y.Num) && sameInt(x.Den, y.Den) })
}

// sameInt reports whether two integers are equal.
func sameInt(a, b api.Int) bool { return a.Neg == b.Neg && slices.Equal(a.Mag, b.Mag) }

// sameTower reports whether two towers have the same radicands.
func sameTower(s, t [][]api.Rat) bool { return slices.EqualFunc(s, t, same) }

// shaped reports whether the lists of a number have the lengths that fit the number of its radicands.
func shaped(a api.Number) bool {
	length := 1
	for _, r := range a.Radicands {
		if len(r) != length {
			return false
		}
		length *= 2
	}
	return len(a.Coefs) == length
}

// cloneRat returns the same number in new memory.
func cloneRat(c api.Rat) api.Rat { return api.Rat{Num: cloneInt(c.Num), Den: cloneInt(c.Den)} }

// cloneInt returns the same integer in new memory.
func cloneInt(n api.Int) api.Int { return api.Int{Neg: n.Neg, Mag: slices.Clone(n.Mag)} }

// clone returns the same element in new memory.
func clone(a []api.Rat) []api.Rat {
	result := make([]api.Rat, len(a))
	for p, c := range a {
		result[p] = cloneRat(c)
	}
	return result
}

// cloneTower returns the same tower in new memory.
func cloneTower(t [][]api.Rat) [][]api.Rat {
	var result [][]api.Rat
	for _, r := range t {
		result = append(result, clone(r))
	}
	return result
}
