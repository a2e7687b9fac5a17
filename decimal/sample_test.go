package decimal_test

import (
	"math"
	"math/big"
	"strings"
	"testing"

	"setsquare/api"
	"setsquare/decimal"
	"setsquare/integer"
	"setsquare/number"
	"setsquare/rational"
	"setsquare/sample"
	"setsquare/specimen"
)

var (
	numberOf = specimen.Of
	show     = specimen.Show
	rootOf   = specimen.Root
	rootsOf  = specimen.Roots
	plus     = specimen.Sum
)

type source = specimen.Source

// precision is the number of binary digits of reference values, and doubt the power of 2 below which a difference may
// be one of rounding. No irrational number of the samples is so near to a decimal fraction, or to half of one.
const (
	precision = 5000
	doubt     = -2000
)

// times returns a product.
func times(a, b api.Number) api.Number { return specimen.Must(number.Mul(a, b)) }

// rat returns the rational number of a text.
func rat(text string) api.Number { return number.FromRat(sample.Of(text)[0]) }

// tens returns the text of 10^n.
func tens(n int) string { return "1" + strings.Repeat("0", n) }

// fraction returns num / 10^n.
func fraction(num int64, n int) api.Number { return number.FromRat(sample.Long(num, 0, 1, n)) }

// tiny returns irrational positive numbers with one, two and three radicands, and a rational one. They are less than
// 10^-199.
func tiny() []api.Number {
	// The square root of 10^400 + 1, less 10^200.
	one := numberOf(tens(399)+"1", "-"+tens(200)+" 1")
	return []api.Number{one, times(one, rootsOf(1, 3)), times(one, rootsOf(2, 3)), fraction(1, 210)}
}

// bigInt returns an integer in the form of package big.
func bigInt(n api.Int) *big.Int {
	result, _ := new(big.Int).SetString(integer.Format(n), 10)
	return result
}

// bigRat returns a rational number in the form of package big.
func bigRat(c api.Rat) *big.Rat { return new(big.Rat).SetFrac(bigInt(c.Num), bigInt(c.Den)) }

// float returns a rounded number.
func float(c *big.Rat) *big.Float { return new(big.Float).SetPrec(precision).SetRat(c) }

// sum returns the sum of the products of coefficients and square roots.
func sum(coefs []api.Rat, roots []*big.Float) *big.Float {
	total := float(new(big.Rat))
	for p, c := range coefs {
		product := float(bigRat(c))
		for i, w := range roots {
			if p>>i&1 == 1 {
				product.Mul(product, w)
			}
		}
		total.Add(total, product)
	}
	return total
}

// value returns the rounded value of a number.
func value(a api.Number) *big.Float {
	var roots []*big.Float
	for _, r := range a.Radicands {
		roots = append(roots, new(big.Float).SetPrec(precision).Sqrt(sum(r, roots)))
	}
	return sum(a.Coefs, roots)
}

// exact returns the value of a number, if it is rational: in a reduced tower all further coefficients are 0 then.
func exact(a api.Number) (*big.Rat, bool) {
	for _, c := range a.Coefs[1:] {
		if rational.Sign(c) != 0 {
			return nil, false
		}
	}
	return bigRat(a.Coefs[0]), true
}

// power returns 10^n.
func power(n int) *big.Rat {
	return new(big.Rat).SetInt(new(big.Int).Exp(big.NewInt(10), big.NewInt(int64(n)), nil))
}

// compare returns the sign of a - c, for a number a.
func compare(t *testing.T, a api.Number, c *big.Rat) int {
	t.Helper()
	if x, ok := exact(a); ok {
		return x.Cmp(c)
	}
	difference := new(big.Float).SetPrec(precision).Sub(value(a), float(c))
	if difference.Sign() == 0 || difference.MantExp(nil) < doubt {
		t.Fatalf("the reference value of %.600s is too near to %.100s", show(a), c.FloatString(60))
	}
	return difference.Sign()
}

// floor returns the greatest integer that is not greater than the number times 10^digits plus c.
func floor(t *testing.T, a api.Number, digits int, c *big.Rat) *big.Int {
	t.Helper()
	scaled := new(big.Float).SetPrec(precision).Mul(value(a), float(power(digits)))
	n, _ := scaled.Add(scaled, float(c)).Int(nil)
	// n may be too great by 1 for negative numbers, and by rounding; and too little by 1 by rounding.
	for n.Add(n, big.NewInt(1)); ; n.Sub(n, big.NewInt(1)) {
		end := new(big.Rat).Sub(new(big.Rat).SetInt(n), c)
		if compare(t, a, end.Quo(end, power(digits))) >= 0 {
			return n
		}
	}
}

// text returns the decimal fraction with some digits behind the point.
func text(n *big.Int, digits int) string {
	return new(big.Rat).Quo(new(big.Rat).SetInt(n), power(digits)).FloatString(digits)
}

// short returns a decimal fraction without superfluous zeros at the end.
func short(s string) string {
	for strings.Contains(s, ".") && strings.ContainsAny(s[len(s)-1:], "0.") {
		s = s[:len(s)-1]
	}
	return s
}

// expectText checks the result of Format or Short, which is an error if the whole text is too long.
func expectText(t *testing.T, name string, f func(api.Number, int) (string, api.Errno), a api.Number, digits int, whole, want string) {
	t.Helper()
	e := api.OK
	if len(whole) > 400 {
		want, e = "", api.ErrTooLarge
	}
	if got, err := f(a, digits); got != want || err != e {
		t.Fatalf("P11.1: %s(%.600s, %d): %s, %v, want %s, %v", name, show(a), digits, got, err, want, e)
	}
}

// expect checks the results of Floor, Round, Format and Short.
func expect(t *testing.T, a api.Number, digits int) {
	t.Helper()
	below, near := floor(t, a, digits, new(big.Rat)), floor(t, a, digits, big.NewRat(1, 2))
	if got, e := decimal.Floor(a, digits); e != api.OK || !integer.Valid(got) || bigInt(got).Cmp(below) != 0 {
		t.Fatalf("P11.1: Floor(%.600s, %d): %v, %v, want %v", show(a), digits, got, e, below)
	}
	if got, e := decimal.Round(a, digits); e != api.OK || !integer.Valid(got) || bigInt(got).Cmp(near) != 0 {
		t.Fatalf("P11.1: Round(%.600s, %d): %v, %v, want %v", show(a), digits, got, e, near)
	}
	whole := text(near, digits)
	expectText(t, "Format", decimal.Format, a, digits, whole, whole)
	expectText(t, "Short", decimal.Short, a, digits, whole, short(whole))
}

// outside are digits that are out of range.
func outside() []int {
	return []int{-1, 61, -2, 62, -60, 100, 400, math.MaxInt, math.MinInt, math.MinInt + 10, 1 << 32, 1<<32 + 10, -1 << 32}
}
