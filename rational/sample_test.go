package rational_test

import (
	"math"
	"math/big"
	"slices"
	"testing"

	"setsquare/api"
	"setsquare/integer"
	"setsquare/rational"
)

// A source yields the same numbers in every run.
type source uint64

func (s *source) below(n int) int {
	*s = *s*6364136223846793005 + 1442695040888963407
	return int(uint64(*s>>32) % uint64(n))
}

// positive returns a positive integer: a small one, one near a power of 2, or a product of factors, so that
// different integers often have common divisors.
func (s *source) positive() api.Int {
	switch s.below(4) {
	case 0:
		return integer.FromInt(int64(1 + s.below(12)))
	case 1:
		power, _ := integer.Pow(integer.FromInt(2), 30+s.below(6)*s.below(8))
		return integer.Add(power, integer.FromInt(int64(s.below(5)-2)))
	}
	n := integer.FromInt(1)
	for range s.below(10) {
		n = integer.Mul(n, integer.FromInt([]int64{2, 3, 5, 7, 6, 64, 10007, math.MaxUint32, 1 << 32}[s.below(9)]))
	}
	return n
}

// number returns a number in normal form; every ninth one is 0, and every fourth one an integer.
func (s *source) number() api.Rat {
	num, den := s.positive(), s.positive()
	if s.below(9) == 0 {
		num = api.Int{}
	}
	if s.below(4) == 0 {
		den = integer.FromInt(1)
	}
	q := new(big.Rat).SetFrac(whole(num), whole(den))
	if s.below(2) == 0 {
		q.Neg(q)
	}
	return normal(q)
}

// whole returns the value of an integer of any form.
func whole(a api.Int) *big.Int {
	n, _ := new(big.Int).SetString(integer.Format(a), 10)
	return n
}

// words returns the normal form of an integer.
func words(n *big.Int) api.Int {
	a, e := integer.Parse(n.String())
	if e != api.OK {
		panic(e)
	}
	return a
}

// value returns the value of a number whose denominator is not 0.
func value(a api.Rat) *big.Rat { return new(big.Rat).SetFrac(whole(a.Num), whole(a.Den)) }

// normal returns the normal form of a number.
func normal(q *big.Rat) api.Rat { return api.Rat{Num: words(q.Num()), Den: words(q.Denom())} }

// same reports whether two numbers have the same form.
func same(a, b api.Rat) bool { return sameInt(a.Num, b.Num) && sameInt(a.Den, b.Den) }

func sameInt(a, b api.Int) bool { return a.Neg == b.Neg && slices.Equal(a.Mag, b.Mag) }

// none reports whether a number is the zero value of its type.
func none(a api.Rat) bool { return same(a, api.Rat{}) }

// expect checks that a result is the normal form of a number.
func expect(t *testing.T, what string, got api.Rat, want *big.Rat) {
	t.Helper()
	if !same(got, normal(want)) {
		t.Fatalf("%s: got %v, want %.80s", what, got, want)
	}
}

// read returns the number of a text.
func read(t *testing.T, s string) api.Rat {
	t.Helper()
	a, e := rational.Parse(s)
	if e != api.OK {
		t.Fatalf("P2.1: Parse(%.40q): %v", s, e)
	}
	return a
}

// loose returns another form of an integer, which is not normal.
func loose(a api.Int) api.Int {
	return api.Int{Neg: a.Neg || len(a.Mag) == 0, Mag: append(slices.Clone(a.Mag), 0, 0)}
}
