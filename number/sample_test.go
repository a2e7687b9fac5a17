package number_test

import (
	"math/big"

	"setsquare/api"
	"setsquare/number"
	"setsquare/rational"
	"setsquare/root"
	"setsquare/sample"
	"setsquare/specimen"
)

var (
	of        = sample.Of
	towerOf   = sample.Lists
	same      = sample.Same
	whole     = number.FromInt
	numberOf  = specimen.Of
	lists     = specimen.Lists
	show      = specimen.Show
	clone     = specimen.Clone
	identical = specimen.Identical
	must      = specimen.Must
	rootOf    = specimen.Root
	rootsOf   = specimen.Roots
	total     = specimen.Sum
	pairs     = specimen.Pairs
)

// precision is the number of binary digits of values.
const precision = 1500

// value returns the value of a number, with many digits.
func value(a api.Number) *big.Float {
	var roots []*big.Float
	for _, r := range a.Radicands {
		roots = append(roots, new(big.Float).SetPrec(precision).Sqrt(sumOf(r, roots)))
	}
	return sumOf(a.Coefs, roots)
}

// sumOf returns the sum of the products of coefficients and square roots.
func sumOf(a []api.Rat, roots []*big.Float) *big.Float {
	sum := new(big.Float).SetPrec(precision)
	for p, c := range a {
		x, _ := new(big.Rat).SetString(rational.Format(c))
		product := new(big.Float).SetPrec(precision).SetRat(x)
		for i, w := range roots {
			if p>>i&1 == 1 {
				product.Mul(product, w)
			}
		}
		sum.Add(sum, product)
	}
	return sum
}

// near reports whether two values differ only by rounding. Different numbers of the samples are much farther apart.
func near(x, y *big.Float) bool {
	scale := new(big.Float).SetPrec(precision).Abs(x)
	scale.Add(scale, big.NewFloat(1))
	difference := new(big.Float).SetPrec(precision).Sub(x, y)
	return difference.Abs(difference).Cmp(scale.SetMantExp(scale, -500)) < 0
}

// order returns the sign of the difference of two values.
func order(x, y *big.Float) int {
	if near(x, y) {
		return 0
	}
	return x.Cmp(y)
}

// none reports whether a number is the zero value.
func none(a api.Number) bool { return len(a.Radicands) == 0 && len(a.Coefs) == 0 }

// union returns a tower that contains the square roots of some towers, as the chapter defines the height of a list.
func union(towers ...[][]api.Rat) [][]api.Rat {
	var t [][]api.Rat
	for _, other := range towers {
		var roots [][]api.Rat
		for _, r := range other {
			next, w, e := root.Adjoin(t, specimen.Mapped(t, r, roots))
			if e != api.OK {
				return nil
			}
			t, roots = next, append(roots, w)
		}
	}
	return t
}

// height returns the height of a list of numbers, if it is at most MaxHeight.
func height(l ...api.Number) int {
	var towers [][][]api.Rat
	for _, a := range l {
		towers = append(towers, a.Radicands)
	}
	return len(union(towers...))
}

// A source yields the same numbers in every run.
type source = specimen.Source
