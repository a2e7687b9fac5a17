package sturm

import (
	"slices"

	"setsquare/api"
	"setsquare/interval"
	"setsquare/polynomial"
	"setsquare/rational"
)

// Roots are isolated by halving intervals until Descartes' rule of signs leaves no doubt, and not with the chain, whose
// coefficients become very long for polynomials of great degrees.

// everywhere returns an interval whose Low is less, and whose High is greater than all roots of a.
func everywhere(a []api.Rat) api.Interval {
	two := rational.FromInt(2)
	// The bound of a itself can be about as great as its coefficients, even if all roots are small. The roots of
	// a(r X) are those of a divided by r.
	r := two
	for rational.Cmp(polynomial.Bound(polynomial.Compose(a, []api.Rat{rational.FromInt(0), r})), two) > 0 {
		r = rational.Mul(r, r)
	}
	high := rational.Mul(r, two)
	return api.Interval{Low: rational.Neg(high), High: high}
}

// isolate returns, in ascending order, parts of an interval that contain one root each, for all roots that the
// interval contains. All roots of a are simple. There are none if a is empty, or the interval is not valid.
func isolate(a []api.Rat, i api.Interval) []api.Interval {
	if len(a) == 0 || !interval.Valid(i) {
		return nil
	}
	i, ok := interval.Meet(i, everywhere(a))
	if !ok || rational.Cmp(i.Low, i.High) == 0 {
		return nil
	}
	return ordinatesOf(a, i).isolate(i, nil)
}

// ordinates describe a polynomial of degree n on an interval: up to a common factor, they are its coefficients in
// Bernstein's basis (X - Low)^k (High - X)^(n-k) divided by the binomial coefficients of n over k. The last one is 0
// exactly if High is a root, and their changes of sign are at least as many as the roots between Low and High; the
// difference is even. If all roots are simple, they are at most one if the interval is narrow enough.
type ordinates []api.Rat

// ordinatesOf returns the ordinates of a on an interval, which are integers.
func ordinatesOf(a []api.Rat, i api.Interval) ordinates {
	// The interval from 0 to 1 takes the place of i.
	coefs := polynomial.Compose(a, []api.Rat{i.Low, interval.Width(i)})
	degree := len(coefs) - 1
	binomial := rational.FromInt(1)
	for k, c := range coefs {
		coefs[k], _ = rational.Div(c, binomial)
		binomial = rational.Mul(binomial, rational.Frac(int64(degree-k), int64(k+1)))
	}
	result := ordinates(primitive(coefs))
	result.accumulate()
	return result
}

// accumulate adds to each number, from the last one to number k, the one before it, for k = 1, 2 and so on. It returns
// the last numbers before the first and after each of these rounds.
func (o ordinates) accumulate() ordinates {
	last := len(o) - 1
	ends := ordinates{o[last]}
	for k := 1; k <= last; k++ {
		for j := last; j >= k; j-- {
			o[j] = rational.Add(o[j], o[j-1])
		}
		ends = append(ends, o[last])
	}
	return ends
}

// halves returns the ordinates on the halves of the interval (de Casteljau's algorithm). Where it takes means, these
// are sums, and so the numbers are multiplied by powers of 2 afterwards.
func (o ordinates) halves() (ordinates, ordinates) {
	left := slices.Clone(o)
	right := left.accumulate()
	factor := rational.FromInt(1)
	for k := range slices.Backward(left) {
		left[k], right[k] = rational.Mul(left[k], factor), rational.Mul(right[k], factor)
		factor = rational.Mul(factor, rational.FromInt(2))
	}
	slices.Reverse(right)
	return left, right
}

// isolate appends parts of an interval with these ordinates that contain one root each.
func (o ordinates) isolate(i api.Interval, found []api.Interval) []api.Interval {
	roots := changes(o)
	if rational.Sign(o[len(o)-1]) == 0 {
		roots++
	}
	switch roots {
	case 0:
		return found
	case 1:
		return append(found, i)
	}
	left, right := o.halves()
	// The middle is computed twice, because the intervals share no memory.
	found = left.isolate(api.Interval{Low: i.Low, High: middle(i)}, found)
	return right.isolate(api.Interval{Low: middle(i), High: i.High}, found)
}

// middle returns the number in the middle of an interval.
func middle(i api.Interval) api.Rat {
	return rational.Mul(rational.Add(i.Low, i.High), rational.Frac(1, 2))
}
