package number

import (
	"math"
	"math/big"
	"testing"

	"setsquare/api"
	"setsquare/rational"
	"setsquare/sample"
)

// float returns a rational number.
func float(c api.Rat) *big.Float {
	x, _ := new(big.Rat).SetString(rational.Format(c))
	return new(big.Float).SetPrec(800).SetRat(x)
}

// conjugate returns the value of an element for some choice of the signs of the square roots: those of the set are
// negative.
func conjugate(a []api.Rat, roots []*big.Float, negative set) *big.Float {
	sum := new(big.Float).SetPrec(800)
	for p, c := range a {
		product := float(c)
		for i, w := range roots {
			if set(p).has(i) {
				product.Mul(product, w)
			}
			if set(p).has(i) && negative.has(i) {
				product.Neg(product)
			}
		}
		sum.Add(sum, product)
	}
	return sum
}

// conjugates returns the values of a number for all choices of the signs. All radicands must be positive for all choices.
func conjugates(t *testing.T, a api.Number) []*big.Float {
	var result []*big.Float
	for negative := range set(1 << len(a.Radicands)) {
		var roots []*big.Float
		for _, r := range a.Radicands {
			square := conjugate(r, roots, negative)
			if square.Sign() <= 0 {
				t.Fatal("a conjugate of a radicand is negative")
			}
			roots = append(roots, square.Sqrt(square))
		}
		result = append(result, conjugate(a.Coefs, roots, negative))
	}
	return result
}

// polynomialOf returns the coefficients of the polynomial with some roots.
func polynomialOf(roots []*big.Float) []*big.Float {
	result := []*big.Float{big.NewFloat(1).SetPrec(800)}
	for _, w := range roots {
		next := []*big.Float{new(big.Float).SetPrec(800)}
		next = append(next, result...)
		for k, c := range result {
			term := new(big.Float).SetPrec(800).Mul(c, w)
			next[k] = new(big.Float).SetPrec(800).Sub(next[k], term)
		}
		result = next
	}
	return result
}

// isWhole reports whether a value is an integer, up to rounding.
func isWhole(x *big.Float) bool {
	n, _ := new(big.Float).SetPrec(800).Add(x, big.NewFloat(math.Copysign(0.5, float64(x.Sign())))).Int(nil)
	difference := new(big.Float).SetPrec(800).Sub(x, new(big.Float).SetPrec(800).SetInt(n))
	return difference.Abs(difference).Cmp(new(big.Float).SetMantExp(big.NewFloat(1), -100)) < 0
}

// numbers returns numbers whose radicands are positive for all choices of the signs.
func numbers() []api.Number {
	var l []api.Number
	for _, row := range [][2]string{
		{"", "5"}, {"", "-7/6"}, {"", "0"}, {"2", "0 1"}, {"2", "-3 1/2"}, {"3/4", "1/3 -5"}, {"2/9", "0 3"},
		{"2, 3 0", "1 -2 3 -4"}, {"2, 3 0", "1/2 0 1/3 0"}, {"2, 3 0", "0 0 0 -7/5"}, {"1/2, 1/3 0", "1 1/5 1 1/5"},
		{"2, 3 1", "0 0 1 0"}, {"2, 3 -1/2", "1/7 0 -1 2"}, {"1/2, 3/5 -1/3", "1/7 0 -1 2"}, {"5, 3 1", "1/2 1/2 1 1/2"},
		{"2, 3 0, 10 1 1 1/2", "0 0 1 0 1/3 0 0 -1"}, {"1/2, 3/2 1, 7/3 1/2 -1/2 0", "0 0 1 0 1/3 0 0 -1"},
		{"93, 10 1, 10 -1 0 0", "0 0 0 0 0 0 1 0"},
	} {
		l = append(l, api.Number{Radicands: sample.Lists(row[0]), Coefs: sample.Of(row[1])})
	}
	return l
}

// P9.1: Equal relies on bounds for all conjugates, and on integers whose products with numbers are algebraic integers.
func TestMeasure(t *testing.T) {
	for _, a := range numbers() {
		m := measureOf(a)
		l := conjugates(t, a)
		for k, x := range l {
			if new(big.Float).Abs(x).Cmp(float(m.size)) > 0 {
				t.Errorf("P9.1: %v: the conjugate %v is greater than %s", a, x, rational.Format(m.size))
			}
			l[k] = x.Mul(x, float(m.den))
		}
		for _, c := range polynomialOf(l) {
			if !isWhole(c) {
				t.Errorf("P9.1: %v: the product with %s is no algebraic integer", a, rational.Format(m.den))
			}
		}
	}
}

// P9.1: Equal relies on a bound for the height of a list.
func TestHeightBound(t *testing.T) {
	all := numbers()
	for _, a := range all {
		for _, b := range all {
			l, e := Join([]api.Number{a, b})
			if e != api.OK || heightBound(a, b) != len(l[0].Radicands) {
				t.Errorf("P9.1: the height %d, at most %d, %v", len(l[0].Radicands), heightBound(a, b), e)
			}
		}
	}
	// Seven radicands, of which only the first one is the square of an element of the other tower.
	high := api.Number{Radicands: sample.Lists("2"), Coefs: sample.Of("0 1")}
	other := high
	for k, n := range []int64{3, 5, 7, 11, 13, 17, 19, 23, 29, 31, 37} {
		w, _ := Sqrt(FromInt(n))
		if k < 6 {
			high, _ = Add(high, w)
		} else {
			other, _ = Add(other, w)
		}
	}
	w, _ := Sqrt(other)
	if got := heightBound(high, w); got != 13 {
		t.Errorf("P9.1: the height is at most %d, want 13", got)
	}
}

// P9.1: Equal relies on a bound for the difference of two numbers that are not equal.
func TestSeparation(t *testing.T) {
	all := numbers()
	for _, n := range []int64{1, 999, 1 << 40} {
		all = append(all, FromRat(rational.Frac(1, n)), FromRat(rational.Frac(-1, n+1)), FromRat(rational.Frac(1, n+1)))
	}
	for _, a := range all {
		for _, b := range all {
			difference := new(big.Float).SetPrec(800).Sub(conjugates(t, a)[0], conjugates(t, b)[0])
			if Equal(a, b) {
				continue
			}
			product := difference.Mul(difference, float(separation(a, b, 1<<heightBound(a, b))))
			if product.Abs(product).Cmp(big.NewFloat(1)) < 0 {
				t.Errorf("P9.1: %v and %v: the separation is too small", a, b)
			}
			if !equalValues(a, a) || equalValues(a, b) {
				t.Errorf("P9.1: %v and %v: the floors", a, b)
			}
		}
	}
}

// P9.1: powers with exponents that are powers of 2.
func TestPower(t *testing.T) {
	for exponent, want := range map[int]string{1: "3/2", 2: "9/4", 4: "81/16", 8: "6561/256"} {
		if got := power(rational.Frac(3, 2), exponent); rational.Format(got) != want {
			t.Errorf("P9.1: the power with the exponent %d: %s", exponent, rational.Format(got))
		}
	}
}
