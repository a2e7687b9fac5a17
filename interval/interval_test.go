package interval_test

import (
	"math/big"
	"slices"
	"testing"

	"setsquare/api"
	"setsquare/integer"
	"setsquare/interval"
	"setsquare/rational"
)

// P3.1: Valid is defined for values of all forms.
func TestValid(t *testing.T) {
	for _, a := range append(corners(), from("-1", "-1"), from("0", "0"), from("-1/3", "-1/4"), from("1/4", "1/3")) {
		if !interval.Valid(a) {
			t.Errorf("P3.1: Valid(%s): false", show(a))
		}
	}
	n := integer.FromInt
	one, two := rational.FromInt(1), rational.FromInt(2)
	for i, a := range []api.Interval{
		{},
		{Low: one},
		{High: one},
		{Low: two, High: one},
		{Low: rational.Frac(1, 3), High: rational.Frac(1, 4)},
		{Low: rational.Frac(-1, 4), High: rational.Frac(-1, 3)},
		{Low: one, High: rational.FromInt(-1)},
		{Low: api.Rat{Num: n(2), Den: n(4)}, High: one},
		{Low: one, High: api.Rat{Num: n(6), Den: n(4)}},
		{Low: api.Rat{Num: n(-1), Den: n(-2)}, High: one},
		{Low: api.Rat{Num: n(-1)}, High: one},
		{Low: one, High: api.Rat{Num: n(2), Den: n(0)}},
		{Low: api.Rat{Num: api.Int{Mag: []uint32{1, 0}}, Den: n(1)}, High: two},
		{Low: one, High: api.Rat{Num: n(2), Den: api.Int{Mag: []uint32{1, 0}}}},
		{Low: api.Rat{Num: api.Int{Neg: true}, Den: n(1)}, High: one},
		{Low: api.Rat{Den: n(2)}, High: one},
	} {
		if interval.Valid(a) {
			t.Errorf("P3.1: Valid is true for row %d", i)
		}
	}
}

// P3.1: the interval that contains one number only.
func TestPoint(t *testing.T) {
	s := source(1)
	for range 500 {
		x := s.number()
		expect(t, "P3.1: Point", interval.Point(x), value(x), value(x))
	}
}

// P3.1: an interval contains its ends and the numbers between them.
func TestContains(t *testing.T) {
	s := source(2)
	for range 4000 {
		a, x := s.interval(), s.number()
		if s.below(3) == 0 {
			x = s.inside(a)
		}
		q := value(x)
		want := value(a.Low).Cmp(q) <= 0 && q.Cmp(value(a.High)) <= 0
		if interval.Contains(a, x) != want {
			t.Fatalf("P3.1: Contains(%s, %s): %v", show(a), rational.Format(x), !want)
		}
	}
	for _, c := range []struct {
		low, high, x string
		want         bool
	}{{"1", "2", "1", true}, {"1", "2", "2", true}, {"1", "2", "3/2", true}, {"1", "2", "99/100", false}, {"1", "2", "201/100", false}, {"1", "1", "1", true}, {"1", "1", "1000001/1000000", false}, {"-2", "-1", "-3/2", true}, {"-2", "-1", "0", false}, {"-2", "0", "0", true}} {
		if interval.Contains(from(c.low, c.high), fraction(c.x)) != c.want {
			t.Errorf("P3.1: Contains(%s .. %s, %s): %v", c.low, c.high, c.x, !c.want)
		}
	}
}

// P3.1: the relation of two intervals, their widths and their signs.
func TestRelations(t *testing.T) {
	pairs(func(a, b api.Interval) {
		lowA, highA, lowB, highB := value(a.Low), value(a.High), value(b.Low), value(b.High)
		if want := lowB.Cmp(lowA) <= 0 && highA.Cmp(highB) <= 0; interval.Within(a, b) != want {
			t.Fatalf("P3.1: Within(%s, %s): %v", show(a), show(b), !want)
		}
		if want := normal(new(big.Rat).Sub(highA, lowA)); !sameRat(interval.Width(a), want) {
			t.Fatalf("P3.1: Width(%s): got %v", show(a), interval.Width(a))
		}
		low, high := lowA, highA
		if lowB.Cmp(low) > 0 {
			low = lowB
		}
		if highB.Cmp(high) < 0 {
			high = highB
		}
		got, ok := interval.Meet(a, b)
		if want := low.Cmp(high) <= 0; ok != want || !ok && !none(got) {
			t.Fatalf("P3.1: Meet(%s, %s): got %s, %v", show(a), show(b), show(got), ok)
		}
		if ok {
			expect(t, "P3.1: Meet", got, low, high)
		}
	})
}

// P3.1: intervals with no common number, one of them, and more.
func TestMeet(t *testing.T) {
	for _, c := range []struct{ a, b, want [2]string }{
		{[2]string{"0", "1"}, [2]string{"1", "2"}, [2]string{"1", "1"}},
		{[2]string{"1", "2"}, [2]string{"0", "1"}, [2]string{"1", "1"}},
		{[2]string{"1", "1"}, [2]string{"1", "1"}, [2]string{"1", "1"}},
		{[2]string{"0", "2"}, [2]string{"1", "1"}, [2]string{"1", "1"}},
		{[2]string{"0", "3"}, [2]string{"1", "2"}, [2]string{"1", "2"}},
		{[2]string{"-1/2", "1/3"}, [2]string{"-1/3", "1/2"}, [2]string{"-1/3", "1/3"}},
	} {
		got, ok := interval.Meet(from(c.a[0], c.a[1]), from(c.b[0], c.b[1]))
		if !ok || !same(got, from(c.want[0], c.want[1])) {
			t.Errorf("P3.1: Meet(%v, %v): got %s, %v", c.a, c.b, show(got), ok)
		}
	}
	for _, c := range []struct{ a, b [2]string }{
		{[2]string{"0", "1"}, [2]string{"2", "3"}},
		{[2]string{"2", "3"}, [2]string{"0", "1"}},
		{[2]string{"0", "0"}, [2]string{"1/1000000", "1/1000000"}},
		{[2]string{"-3", "-2"}, [2]string{"2", "3"}},
	} {
		if got, ok := interval.Meet(from(c.a[0], c.a[1]), from(c.b[0], c.b[1])); ok || !none(got) {
			t.Errorf("P3.1: Meet(%v, %v): got %s, %v", c.a, c.b, show(got), ok)
		}
	}
}

// P3.1: intervals have the sign that all their numbers have, and otherwise none.
func TestSign(t *testing.T) {
	for _, c := range []struct {
		low, high string
		sign      int
		ok        bool
	}{
		{"1/1000", "2", 1, true}, {"2", "2", 1, true}, {"-2", "-1/1000", -1, true}, {"-2", "-2", -1, true}, {"0", "0", 0, true},
		{"0", "1", 0, false}, {"-1", "0", 0, false}, {"-1", "1", 0, false}, {"-1/1000", "1/1000", 0, false},
	} {
		if sign, ok := interval.Sign(from(c.low, c.high)); sign != c.sign || ok != c.ok {
			t.Errorf("P3.1: Sign(%s .. %s): got %d, %v", c.low, c.high, sign, ok)
		}
	}
}

// P3.1: the results of the operations are exact.
func TestOperations(t *testing.T) {
	pairs(func(a, b api.Interval) {
		lowA, highA, lowB, highB := value(a.Low), value(a.High), value(b.Low), value(b.High)
		expect(t, "P3.1: Add", interval.Add(a, b), new(big.Rat).Add(lowA, lowB), new(big.Rat).Add(highA, highB))
		expect(t, "P3.1: Sub", interval.Sub(a, b), new(big.Rat).Sub(lowA, highB), new(big.Rat).Sub(highA, lowB))
		low, high := products(lowA, highA, lowB, highB)
		expect(t, "P3.1: Mul", interval.Mul(a, b), low, high)
		got, e := interval.Div(a, b)
		if lowB.Sign() <= 0 && highB.Sign() >= 0 {
			if e != api.ErrZero || !none(got) {
				t.Fatalf("P3.1: Div(%s, %s): got %s, %v", show(a), show(b), show(got), e)
			}
			return
		}
		if e != api.OK {
			t.Fatalf("P3.1: Div(%s, %s): %v", show(a), show(b), e)
		}
		// The inverse numbers of an interval without 0 are those between the inverse numbers of its ends.
		low, high = products(lowA, highA, new(big.Rat).Inv(highB), new(big.Rat).Inv(lowB))
		expect(t, "P3.1: Div", got, low, high)
	})
}

// products returns the least and the greatest product of numbers of two intervals.
func products(lowA, highA, lowB, highB *big.Rat) (*big.Rat, *big.Rat) {
	var all []*big.Rat
	for _, x := range []*big.Rat{lowA, highA} {
		for _, y := range []*big.Rat{lowB, highB} {
			all = append(all, new(big.Rat).Mul(x, y))
		}
	}
	slices.SortFunc(all, (*big.Rat).Cmp)
	return all[0], all[3]
}

// P3.1: divisors that contain 0 inside, at an end, or nothing else, also if the dividend is 0.
func TestDivisorsWithZero(t *testing.T) {
	for _, b := range []api.Interval{from("-1", "1"), from("0", "1"), from("-1", "0"), from("0", "0"), from("-1/4294967296", "18446744073709551616")} {
		for _, a := range []api.Interval{from("1", "2"), from("0", "0"), from("-1", "1"), from("-3", "-2")} {
			if got, e := interval.Div(a, b); e != api.ErrZero || !none(got) {
				t.Errorf("P3.1: Div(%s, %s): got %s, %v", show(a), show(b), show(got), e)
			}
		}
	}
}

// P3.1: the examples of the chapter, and other rows of numbers.
func TestExamples(t *testing.T) {
	if got := interval.Mul(from("-2", "3"), from("-1", "4")); !same(got, from("-8", "12")) {
		t.Errorf("P3.1: Mul: got %s", show(got))
	}
	if got, e := interval.Sqrt(from("2", "2"), 1); e != api.OK || !same(got, from("1", "3/2")) {
		t.Errorf("P3.1: Sqrt with 1 bit: got %s, %v", show(got), e)
	}
	if got, e := interval.Sqrt(from("2", "2"), 2); e != api.OK || !same(got, from("5/4", "3/2")) {
		t.Errorf("P3.1: Sqrt with 2 bits: got %s, %v", show(got), e)
	}
	for _, c := range []struct{ a, b, want [2]string }{
		{[2]string{"1", "2"}, [2]string{"2", "4"}, [2]string{"1/4", "1"}},
		{[2]string{"1", "2"}, [2]string{"-4", "-2"}, [2]string{"-1", "-1/4"}},
		{[2]string{"-1", "2"}, [2]string{"2", "4"}, [2]string{"-1/2", "1"}},
		{[2]string{"-1", "2"}, [2]string{"-4", "-2"}, [2]string{"-1", "1/2"}},
		{[2]string{"-2", "-1"}, [2]string{"-4", "-2"}, [2]string{"1/4", "1"}},
		{[2]string{"0", "0"}, [2]string{"-4", "-2"}, [2]string{"0", "0"}},
	} {
		got, e := interval.Div(from(c.a[0], c.a[1]), from(c.b[0], c.b[1]))
		if e != api.OK || !same(got, from(c.want[0], c.want[1])) {
			t.Errorf("P3.1: Div(%v, %v): got %s, %v", c.a, c.b, show(got), e)
		}
	}
}
