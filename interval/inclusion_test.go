package interval_test

import (
	"testing"

	"setsquare/api"
	"setsquare/interval"
	"setsquare/rational"
)

// An operation on numbers and intervals; ok is false if it is not possible.
type operation struct {
	name      string
	numbers   func(x, y api.Rat) (result api.Rat, ok bool)
	intervals func(a, b api.Interval) (result api.Interval, ok bool)
}

// operations are the four operations of arithmetic.
func operations() []operation {
	numbers := func(f func(x, y api.Rat) api.Rat) func(x, y api.Rat) (api.Rat, bool) {
		return func(x, y api.Rat) (api.Rat, bool) { return f(x, y), true }
	}
	intervals := func(f func(a, b api.Interval) api.Interval) func(a, b api.Interval) (api.Interval, bool) {
		return func(a, b api.Interval) (api.Interval, bool) { return f(a, b), true }
	}
	divide := func(x, y api.Rat) (api.Rat, bool) {
		q, e := rational.Div(x, y)
		return q, e == api.OK
	}
	divideIntervals := func(a, b api.Interval) (api.Interval, bool) {
		q, e := interval.Div(a, b)
		return q, e == api.OK
	}
	return []operation{
		{"Add", numbers(rational.Add), intervals(interval.Add)},
		{"Sub", numbers(rational.Sub), intervals(interval.Sub)},
		{"Mul", numbers(rational.Mul), intervals(interval.Mul)},
		{"Div", divide, divideIntervals},
	}
}

// P3.2: the results for numbers belong to the result for intervals.
func TestInclusion(t *testing.T) {
	s := source(21)
	for range 2500 {
		a, b := s.interval(), s.interval()
		for _, o := range operations() {
			result, ok := o.intervals(a, b)
			if !ok {
				continue
			}
			for range 4 {
				x, y := s.inside(a), s.inside(b)
				if z, ok := o.numbers(x, y); !ok || !interval.Contains(result, z) {
					t.Fatalf("P3.2: %s(%s, %s) = %s does not contain %s, the result for %s and %s", o.name, show(a), show(b), show(result), rational.Format(z), rational.Format(x), rational.Format(y))
				}
			}
		}
	}
}

// P3.2: results become greater if an interval becomes greater.
func TestGreaterIntervals(t *testing.T) {
	s := source(22)
	for range 2500 {
		a, b := s.interval(), s.interval()
		moreA, moreB := s.around(a), s.around(b)
		for _, o := range operations() {
			more, ok := o.intervals(moreA, moreB)
			if !ok {
				continue
			}
			if result, ok := o.intervals(a, b); !ok || !interval.Within(result, more) {
				t.Fatalf("P3.2: %s(%s, %s) = %s, but %s(%s, %s) = %s", o.name, show(a), show(b), show(result), o.name, show(moreA), show(moreB), show(more))
			}
		}
	}
}

// P3.2: the square roots of numbers belong to the square root of the interval, which becomes greater if the interval
// becomes greater, and less if there are more bits.
func TestSqrtInclusion(t *testing.T) {
	s := source(23)
	for range 1000 {
		x := value(s.number())
		root := normal(x.Abs(x))
		a := positive(s.around(interval.Point(rational.Mul(root, root))))
		bits := s.below(80)
		result, e := interval.Sqrt(a, bits)
		if e != api.OK || !interval.Contains(result, root) {
			t.Fatalf("P3.2: Sqrt(%s, %d) = %s does not contain %s: %v", show(a), bits, show(result), rational.Format(root), e)
		}
		more, e := interval.Sqrt(positive(s.around(a)), bits)
		if e != api.OK || !interval.Within(result, more) {
			t.Fatalf("P3.2: Sqrt(%s, %d) = %s, but that of a greater interval is %s", show(a), bits, show(result), show(more))
		}
		less, e := interval.Sqrt(a, bits+1+s.below(40))
		if e != api.OK || !interval.Within(less, result) {
			t.Fatalf("P3.2: Sqrt(%s, %d) = %s, but with more bits it is %s", show(a), bits, show(result), show(less))
		}
	}
}

// P3.2: the numbers of an interval belong to the rounded interval, which becomes greater if the interval becomes
// greater, and less if there are more bits.
func TestRoundInclusion(t *testing.T) {
	s := source(24)
	for range 1500 {
		a := s.interval()
		bits := s.below(80)
		result := interval.Round(a, bits)
		if x := s.inside(a); !interval.Contains(result, x) || !interval.Within(a, result) {
			t.Fatalf("P3.2: Round(%s, %d) = %s", show(a), bits, show(result))
		}
		if more := interval.Round(s.around(a), bits); !interval.Within(result, more) {
			t.Fatalf("P3.2: Round(%s, %d) = %s, but that of a greater interval is %s", show(a), bits, show(result), show(more))
		}
		if less := interval.Round(a, bits+1+s.below(40)); !interval.Within(less, result) {
			t.Fatalf("P3.2: Round(%s, %d) = %s, but with more bits it is %s", show(a), bits, show(result), show(less))
		}
	}
}

// P3.2: the common numbers are those of both intervals, and the sign is that of each number.
func TestNumbersOfIntervals(t *testing.T) {
	s := source(25)
	for range 3000 {
		a, b := s.interval(), s.interval()
		if s.below(2) == 0 {
			b = s.around(interval.Point(s.inside(a)))
		}
		x := s.inside(a)
		common, ok := interval.Meet(a, b)
		if (ok && interval.Contains(common, x)) != interval.Contains(b, x) {
			t.Fatalf("P3.2: Meet(%s, %s) = %s, %v, but %s", show(a), show(b), show(common), ok, rational.Format(x))
		}
		if sign, ok := interval.Sign(a); ok && sign != rational.Sign(x) {
			t.Fatalf("P3.2: Sign(%s) = %d, but %s", show(a), sign, rational.Format(x))
		}
		if rational.Cmp(rational.Sub(x, a.Low), interval.Width(a)) > 0 {
			t.Fatalf("P3.2: Width(%s) = %s, but %s", show(a), rational.Format(interval.Width(a)), rational.Format(x))
		}
	}
}
