package interval_test

import (
	"math/big"
	"slices"
	"testing"

	"setsquare/api"
	"setsquare/integer"
	"setsquare/interval"
	"setsquare/rational"
)

// A source yields the same numbers in every run.
type source uint64

func (s *source) below(n int) int {
	*s = *s*6364136223846793005 + 1442695040888963407
	return int(uint64(*s>>32) % uint64(n))
}

// number returns a number: 0, a small one, a multiple of a power of 1/2, a long one, a very great or a very small one.
func (s *source) number() api.Rat {
	q := big.NewRat(int64(s.below(41)-20), int64(1+s.below(9)))
	switch s.below(6) {
	case 0:
		return rational.FromInt(int64(s.below(5) - 2))
	case 1:
		q.Mul(q, new(big.Rat).SetFrac(big.NewInt(1), power(2, 1+s.below(70))))
	case 2:
		q.Mul(q, new(big.Rat).SetFrac(power(3, s.below(80)), power(7, s.below(60))))
	case 3:
		q.Mul(q, new(big.Rat).SetInt(power(10, s.below(40))))
	}
	return normal(q)
}

// interval returns an interval; every fourth one contains one number only, and some begin or end with 0.
func (s *source) interval() api.Interval {
	a, b := value(s.number()), value(s.number())
	switch s.below(4) {
	case 0:
		b = a
	case 1:
		b.Add(a, new(big.Rat).Quo(b, big.NewRat(1000003, 1)))
	}
	if s.below(8) == 0 {
		b.SetInt64(0)
	}
	return span(a, b)
}

// around returns an interval that contains a, sometimes a itself.
func (s *source) around(a api.Interval) api.Interval {
	low, high := value(a.Low), value(a.High)
	if s.below(3) > 0 {
		low.Sub(low, new(big.Rat).Abs(value(s.number())))
	}
	if s.below(3) > 0 {
		high.Add(high, new(big.Rat).Abs(value(s.number())))
	}
	return span(low, high)
}

// inside returns a number of an interval: an end, or one between the ends.
func (s *source) inside(a api.Interval) api.Rat {
	part := big.NewRat(int64(s.below(9)), 8)
	part.Mul(part, new(big.Rat).Sub(value(a.High), value(a.Low)))
	return normal(part.Add(part, value(a.Low)))
}

// power returns the power of a small number.
func power(base int64, exponent int) *big.Int {
	return new(big.Int).Exp(big.NewInt(base), big.NewInt(int64(exponent)), nil)
}

// whole returns the value of an integer of any form.
func whole(a api.Int) *big.Int {
	n, _ := new(big.Int).SetString(integer.Format(a), 10)
	return n
}

// words returns the normal form of an integer.
func words(n *big.Int) api.Int {
	var mag []uint32
	for rest := new(big.Int).Abs(n); rest.Sign() > 0; rest.Rsh(rest, 32) {
		mag = append(mag, uint32(rest.Uint64()))
	}
	return api.Int{Neg: n.Sign() < 0, Mag: mag}
}

// value returns the value of a number.
func value(a api.Rat) *big.Rat { return new(big.Rat).SetFrac(whole(a.Num), whole(a.Den)) }

// normal returns the normal form of a number.
func normal(q *big.Rat) api.Rat { return api.Rat{Num: words(q.Num()), Den: words(q.Denom())} }

// span returns the interval between two numbers.
func span(x, y *big.Rat) api.Interval {
	if x.Cmp(y) > 0 {
		x, y = y, x
	}
	return api.Interval{Low: normal(x), High: normal(y)}
}

// fraction returns the number of a text.
func fraction(text string) api.Rat {
	q, ok := new(big.Rat).SetString(text)
	if !ok {
		panic(text)
	}
	return normal(q)
}

// from returns the interval from the number of a text to another one.
func from(low, high string) api.Interval {
	return api.Interval{Low: fraction(low), High: fraction(high)}
}

func sameInt(a, b api.Int) bool { return a.Neg == b.Neg && slices.Equal(a.Mag, b.Mag) }

func sameRat(a, b api.Rat) bool { return sameInt(a.Num, b.Num) && sameInt(a.Den, b.Den) }

// same reports whether two intervals have the same form.
func same(a, b api.Interval) bool { return sameRat(a.Low, b.Low) && sameRat(a.High, b.High) }

// none reports whether an interval is the zero value of its type.
func none(a api.Interval) bool { return same(a, api.Interval{}) }

// show returns an interval as a text.
func show(a api.Interval) string {
	return rational.Format(a.Low) + " .. " + rational.Format(a.High)
}

// expect checks that a result is the interval between two numbers in normal form.
func expect(t *testing.T, what string, got api.Interval, low, high *big.Rat) {
	t.Helper()
	if want := (api.Interval{Low: normal(low), High: normal(high)}); !same(got, want) || !interval.Valid(got) {
		t.Fatalf("%s: got %s, want %s", what, show(got), show(want))
	}
}

// corners are intervals of one number, intervals that contain 0 inside, at an end and not at all, and their images.
func corners() []api.Interval {
	ends := []string{"-4294967297", "-5/3", "-1", "-1/4294967296", "0", "2/7", "1", "3/2", "18446744073709551616/3"}
	var all []api.Interval
	for i, low := range ends {
		for _, high := range ends[i:] {
			all = append(all, from(low, high))
		}
	}
	return all
}

// pairs calls a function with many pairs of intervals.
func pairs(f func(a, b api.Interval)) {
	for _, a := range corners() {
		for _, b := range corners() {
			f(a, b)
		}
	}
	s := source(31)
	for range 3000 {
		f(s.interval(), s.interval())
	}
}
