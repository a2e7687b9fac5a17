package polynomial

import (
	"slices"

	"setsquare/api"
	"setsquare/integer"
	"setsquare/rational"
)

// Products, values and quotients are computed with polynomials with integer coefficients, without zeros at the end,
// and one common denominator: an operation on rational numbers looks for common divisors each time, which takes
// longer than the operation.

// split returns the numerators of a polynomial over the least common denominator, and this denominator.
func split(a []api.Rat) ([]api.Int, api.Int) {
	den := integer.FromInt(1)
	for _, c := range a {
		den = integer.Mul(den, exact(c.Den, integer.GCD(den, c.Den)))
	}
	nums := make([]api.Int, len(a))
	for i, c := range a {
		nums[i] = integer.Mul(c.Num, exact(den, c.Den))
	}
	return cut(nums, integer.Sign), den
}

// join returns the polynomial with some numerators over a common denominator.
func join(nums []api.Int, den api.Int) []api.Rat {
	a := make([]api.Rat, len(nums))
	for i, n := range nums {
		a[i], _ = rational.Make(n, den)
	}
	return a
}

// exact returns a divided by its divisor b.
func exact(a, b api.Int) api.Int {
	quotient, _, _ := integer.DivMod(a, b)
	return quotient
}

// product returns a times b.
func product(a, b []api.Int) []api.Int {
	if len(a) == 0 || len(b) == 0 {
		return nil
	}
	result := make([]api.Int, len(a)+len(b)-1)
	for i, x := range a {
		for j, y := range b {
			result[i+j] = integer.Add(result[i+j], integer.Mul(x, y))
		}
	}
	return result
}

// Mul returns a times b.
func Mul(a, b []api.Rat) []api.Rat {
	x, denA := split(a)
	y, denB := split(b)
	return join(product(x, y), integer.Mul(denA, denB))
}

// Eval returns the value at x.
func Eval(a []api.Rat, x api.Rat) api.Rat {
	value := Compose(a, []api.Rat{x})
	if len(value) == 0 {
		return rational.FromInt(0)
	}
	return value[0]
}

// Compose returns a(b(X)).
func Compose(a, b []api.Rat) []api.Rat {
	x, denA := split(a)
	y, denB := split(b)
	var sum []api.Int
	// Horner's method: the sum is that of the terms so far times scale, a power of b's denominator.
	scale := integer.FromInt(1)
	for i, c := range slices.Backward(x) {
		sum = plus(product(sum, y), integer.Mul(c, scale))
		if i > 0 {
			scale = integer.Mul(scale, denB)
		}
	}
	return join(sum, integer.Mul(denA, scale))
}

// plus returns a plus a constant. It changes and keeps a.
func plus(a []api.Int, constant api.Int) []api.Int {
	if len(a) == 0 {
		a = make([]api.Int, 1)
	}
	a[0] = integer.Add(a[0], constant)
	return cut(a, integer.Sign)
}

// Primitive returns the multiple with coprime integer coefficients, the last one positive.
func Primitive(a []api.Rat) []api.Int {
	nums, _ := split(a)
	return primitive(nums)
}

// primitive returns the multiple with coprime coefficients, the last one positive.
func primitive(a []api.Int) []api.Int {
	var common api.Int
	for _, c := range a {
		common = integer.GCD(common, c)
	}
	if len(a) > 0 && integer.Sign(last(a)) < 0 {
		common = integer.Neg(common)
	}
	result := make([]api.Int, len(a))
	for i, c := range a {
		result[i] = exact(c, common)
	}
	return result
}
