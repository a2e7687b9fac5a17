package number

import (
	"slices"

	"setsquare/api"
	"setsquare/rational"
	"setsquare/tower"
)

// annihilator returns the polynomial of degree d, the constant first and the last coefficient 1, that the minimal
// polynomial of a number is if this has the degree d, and whether the number is a root of it.
func annihilator(a api.Number, d int) ([]api.Rat, bool) {
	// The sum of all conjugates of an element is a multiple of its first coefficient, because those of a product of square
	// roots cancel one another. So this gives the sums of the powers of the d conjugates of a.
	x := one(a)
	f := []api.Rat{rational.FromInt(1)}
	var sums []api.Rat
	for k := range d {
		x = tower.Mul(a.Radicands, x, a.Coefs)
		sums = append(sums, rational.Mul(rational.FromInt(int64(d)), x[0]))
		f = append(f, nextCoefficient(f, sums, k+1))
	}
	slices.Reverse(f)
	return f, tower.Zero(valueAt(f, a))
}

// nextCoefficient returns the coefficient number k of a polynomial, counted from the leading one, if those before it and
// the sums of the powers of its roots are known (Newton's identities).
func nextCoefficient(f, sums []api.Rat, k int) api.Rat {
	sum := rational.FromInt(0)
	for i, c := range f {
		sum = rational.Sub(sum, rational.Mul(c, sums[k-1-i]))
	}
	return rational.Mul(sum, rational.Frac(1, int64(k)))
}

// one returns 1 as an element of the tower of a number.
func one(a api.Number) []api.Rat { return tower.FromRat(a.Radicands, rational.FromInt(1)) }

// valueAt returns the value of a polynomial, as an element of the tower of a number.
func valueAt(f []api.Rat, a api.Number) []api.Rat {
	sum := tower.FromRat(a.Radicands, rational.FromInt(0))
	for _, c := range slices.Backward(f) {
		sum = tower.Mul(a.Radicands, sum, a.Coefs)
		sum[0] = rational.Add(sum[0], c)
	}
	return sum
}
