package polynomial_test

import (
	"math/big"

	"setsquare/api"
)

// A poly is a polynomial whose operations follow the definitions, with the numbers of math/big.
type poly []*big.Rat

func polynomialOf(a []api.Rat) poly {
	var result poly
	for _, c := range a {
		result = append(result, value(c))
	}
	return result.cut()
}

func constant(n int64) poly { return poly{big.NewRat(n, 1)}.cut() }

// binomial returns X + n.
func binomial(n int64) poly { return poly{big.NewRat(n, 1), big.NewRat(1, 1)} }

func (a poly) cut() poly {
	for len(a) > 0 && a[len(a)-1].Sign() == 0 {
		a = a[:len(a)-1]
	}
	return a
}

// coef returns the coefficient of a power, also if it is greater than the degree.
func (a poly) coef(i int) *big.Rat {
	if i < len(a) {
		return a[i]
	}
	return new(big.Rat)
}

func (a poly) plus(b poly) poly {
	var sum poly
	for i := range max(len(a), len(b)) {
		sum = append(sum, new(big.Rat).Add(a.coef(i), b.coef(i)))
	}
	return sum.cut()
}

func (a poly) minus(b poly) poly { return a.plus(b.times(constant(-1))) }

func (a poly) times(b poly) poly {
	var product poly
	for n := range len(a) + len(b) {
		sum := new(big.Rat)
		for i := range n + 1 {
			sum.Add(sum, new(big.Rat).Mul(a.coef(i), b.coef(n-i)))
		}
		product = append(product, sum)
	}
	return product.cut()
}

// at returns the value: the sum of the multiples of the powers of x.
func (a poly) at(x *big.Rat) *big.Rat {
	sum, power := new(big.Rat), big.NewRat(1, 1)
	for _, c := range a {
		sum.Add(sum, new(big.Rat).Mul(c, power))
		power = new(big.Rat).Mul(power, x)
	}
	return sum
}

// of returns the sum of the multiples of the powers of b.
func (a poly) of(b poly) poly {
	var sum poly
	power := constant(1)
	for _, c := range a {
		sum = sum.plus(power.times(poly{c}.cut()))
		power = power.times(b)
	}
	return sum
}

func (a poly) derivative() poly {
	var result poly
	for i := 1; i < len(a); i++ {
		result = append(result, new(big.Rat).Mul(a[i], big.NewRat(int64(i), 1)))
	}
	return result.cut()
}

// remainder returns the remainder of a division by b, which is not 0.
func (a poly) remainder(b poly) poly {
	for len(a) >= len(b) {
		term := make(poly, len(a)-len(b)+1)
		for i := range term {
			term[i] = new(big.Rat)
		}
		term[len(term)-1].Quo(a[len(a)-1], b[len(b)-1])
		a = a.minus(term.times(b))
	}
	return a
}

// monic returns the multiple with the leading coefficient 1; 0 for 0.
func (a poly) monic() poly {
	if len(a) == 0 {
		return a
	}
	return a.times(poly{new(big.Rat).Inv(a[len(a)-1])})
}

// common returns the greatest common divisor, found by the Euclidean algorithm.
func (a poly) common(b poly) poly {
	for len(b) > 0 {
		a, b = b, a.remainder(b)
	}
	return a.monic()
}
