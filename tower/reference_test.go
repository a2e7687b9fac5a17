package tower_test

import (
	"setsquare/api"
	"setsquare/rational"
	"setsquare/tower"
)

// sum returns a + b.
func sum(a, b []api.Rat) []api.Rat {
	result := make([]api.Rat, len(a))
	for p := range result {
		result[p] = rational.Add(a[p], b[p])
	}
	return result
}

// opposite returns -a.
func opposite(a []api.Rat) []api.Rat {
	result := make([]api.Rat, len(a))
	for p := range result {
		result[p] = rational.Neg(a[p])
	}
	return result
}

// product returns the product of two elements, as the chapter defines it.
func product(t [][]api.Rat, a, b []api.Rat) []api.Rat {
	if len(t) == 0 {
		return []api.Rat{rational.Mul(a[0], b[0])}
	}
	if tower.Zero(a) || tower.Zero(b) {
		return nought(len(a))
	}
	half := len(a) / 2
	below, r := t[:len(t)-1], t[len(t)-1]
	low := sum(product(below, a[:half], b[:half]), product(below, product(below, a[half:], b[half:]), r))
	high := sum(product(below, a[:half], b[half:]), product(below, a[half:], b[:half]))
	return append(low, high...)
}

// norm returns the norm of an element, as the chapter defines it.
func norm(t [][]api.Rat, a []api.Rat) []api.Rat {
	half := len(a) / 2
	below, r := t[:len(t)-1], t[len(t)-1]
	return sum(product(below, a[:half], a[:half]), opposite(product(below, product(below, a[half:], a[half:]), r)))
}

// regular reports whether the products with an element are all elements, so that 1 is one of them: the matrix of the
// products with the elements that have one coefficient is eliminated.
func regular(t [][]api.Rat, a []api.Rat) bool {
	var rows [][]api.Rat
	for p := range a {
		unit := nought(len(a))
		unit[p] = rational.FromInt(1)
		rows = append(rows, product(t, a, unit))
	}
	for column := range rows {
		pivot := column
		for pivot < len(rows) && rational.Sign(rows[pivot][column]) == 0 {
			pivot++
		}
		if pivot == len(rows) {
			return false
		}
		rows[column], rows[pivot] = rows[pivot], rows[column]
		for k := column + 1; k < len(rows); k++ {
			factor, _ := rational.Div(rows[k][column], rows[column][column])
			for j := column; j < len(rows); j++ {
				rows[k][j] = rational.Sub(rows[k][j], rational.Mul(factor, rows[column][j]))
			}
		}
	}
	return true
}
