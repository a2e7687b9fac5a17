package sturm

import (
	"setsquare/api"
	"setsquare/interval"
	"setsquare/polynomial"
	"setsquare/rational"
)

// Roots are isolated by halving intervals until Descartes' rule of signs leaves no doubt, and not with the chain, whose
// coefficients become very long for polynomials of great degrees.

// everywhere returns an interval whose Low is less, and whose High is greater than all roots of a. The leading coefficient
// of a is 1, unless a is empty.
func everywhere(a []api.Rat) api.Interval {
	// If the coefficients of X^k are at most r^(n-k), those of a(r X) are at most r^n, the last one. So its roots are less
	// than 2. (The bound of a itself can be as great as the coefficients, even if all roots are small.)
	exponent := 0
	for k, c := range a {
		digits := binaryDigits(c.Num.Mag) - binaryDigits(c.Den.Mag) + 1
		if distance := len(a) - 1 - k; distance > 0 {
			exponent = max(exponent, (digits+distance-1)/distance)
		}
	}
	high := powerOfTwo(exponent + 1)
	return api.Interval{Low: rational.Neg(high), High: high}
}

// powerOfTwo returns a power of 2, whose exponent is not negative.
func powerOfTwo(exponent int) api.Rat {
	mag := make([]uint32, exponent/32+1)
	mag[exponent/32] = 1 << (exponent % 32)
	return whole(api.Int{Mag: mag})
}

// isolate returns, in ascending order, parts of an interval that contain one root each, for all roots that the
// interval contains. All roots of a are simple. There are none if a is empty, or the interval is not valid.
func isolate(a []api.Rat, i api.Interval) []api.Interval {
	if len(a) == 0 || !interval.Valid(i) {
		return nil
	}
	i, ok := interval.Meet(i, everywhere(a))
	if !ok || rational.Cmp(i.Low, i.High) == 0 {
		return nil
	}
	return search(a, i, rounded{}, nil)
}

// ordinates describe a polynomial of degree n on an interval: up to a common factor, they are its coefficients in
// Bernstein's basis (X - Low)^k (High - X)^(n-k) divided by the binomial coefficients of n over k. The last one is 0
// exactly if High is a root, and their changes of sign are at least as many as the roots between Low and High; the
// difference is even. If all roots are simple, they are at most one if the interval is narrow enough.
type ordinates []api.Rat

// ordinatesOf returns the ordinates of a on an interval, which are integers.
func ordinatesOf(a []api.Rat, i api.Interval) ordinates {
	// The interval from 0 to 1 takes the place of i.
	coefs := polynomial.Compose(a, []api.Rat{i.Low, interval.Width(i)})
	degree := len(coefs) - 1
	binomial := rational.FromInt(1)
	for k, c := range coefs {
		coefs[k], _ = rational.Div(c, binomial)
		binomial = rational.Mul(binomial, rational.Frac(int64(degree-k), int64(k+1)))
	}
	o := ordinates(primitive(coefs))
	for k := range o {
		for j := degree; j > k; j-- {
			o[j] = rational.Add(o[j], o[j-1])
		}
	}
	return o
}

// roots returns a number that is at least that of the roots that the interval contains, and equal to it if it is less
// than 2.
func (o ordinates) roots() int {
	if rational.Sign(o[len(o)-1]) == 0 {
		return changes(o) + 1
	}
	return changes(o)
}

// search appends the parts of an interval that contain one root of a each. The rounded ordinates of a on the interval may
// be missing.
func search(a []api.Rat, i api.Interval, r rounded, found []api.Interval) []api.Interval {
	roots, ok := r.roots()
	if !ok {
		exact := ordinatesOf(a, i)
		roots, r = exact.roots(), exact.rounded()
	}
	switch roots {
	case 0:
		return found
	case 1:
		return append(found, i)
	}
	left, right := r.halves()
	// The middle is computed twice, because the intervals share no memory.
	found = search(a, api.Interval{Low: i.Low, High: middle(i)}, left, found)
	return search(a, api.Interval{Low: middle(i), High: i.High}, right, found)
}

// middle returns the number in the middle of an interval.
func middle(i api.Interval) api.Rat {
	return rational.Mul(rational.Add(i.Low, i.High), rational.Frac(1, 2))
}
