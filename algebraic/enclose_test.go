package algebraic_test

import (
	"math"
	"testing"

	"setsquare/algebraic"
	"setsquare/api"
	"setsquare/interval"
	"setsquare/number"
	"setsquare/rational"
	"setsquare/sample"
	"setsquare/sign"
	"setsquare/specimen"
)

// expectEnclose checks Enclose for a form of a number.
func expectEnclose(t *testing.T, f api.Algebraic, a api.Number, bits int) {
	t.Helper()
	got, e := algebraic.Enclose(f, bits)
	if e != api.OK || !contains(got, a) || rational.Cmp(interval.Width(got), powerOfHalf(bits)) > 0 {
		t.Fatalf("P10.1: Enclose(%.600s, %d), a form of %.600s: %v, %v", show(f), bits, showNum(a), got, e)
	}
}

// P10.1 (T3): intervals for canonical and other forms contain the number, and are not too wide.
func TestEnclose(t *testing.T) {
	other := 0
	specimen.Pairs(300, 3, func(s *source, a, _ api.Number) {
		forms := append(others(s, a), algebraic.Of(a))
		other += len(forms) - 1
		for _, f := range forms {
			bits := []int{0, 1, 2, 7, 64, s.Below(1025)}[s.Below(6)]
			expectEnclose(t, f, a, bits)
			i, _ := algebraic.Enclose(f, bits)
			if _, ok := interval.Meet(i, sign.Enclose(a.Radicands, a.Coefs, bits)); !ok {
				t.Fatalf("P10.1: Enclose(%.600s, %d) and the interval of %.600s have nothing in common", show(f), bits, showNum(a))
			}
		}
	})
	if other < 500 {
		t.Errorf("the samples have too few forms that are not canonical: %d", other)
	}
}

// P10.1: the least and the greatest number of bits, for roots that are rational, irrational, 0, close to others, and the
// first and the last one.
func TestEncloseBits(t *testing.T) {
	little := number.FromRat(sample.Long(1, 0, 1, 300))
	for _, row := range []struct {
		form api.Algebraic
		a    api.Number
	}{
		{form("0 1", 0), number.FromInt(0)},
		{form("-3 4", 0), number.FromRat(rational.Frac(3, 4))},
		{form("1000000000000000000000 3", 0), number.FromRat(sample.Of("-1000000000000000000000/3")[0])},
		{form("-2 0 1", 0), number.Neg(rootOf(2))},
		{form("-2 0 1", 1), rootOf(2)},
		{form("-1 0 4", 1), number.FromRat(rational.Frac(1, 2))},
		{form("0 -1 0 1", 0), number.FromInt(-1)},
		{form("0 -1 0 1", 1), number.FromInt(0)},
		{form("0 -1 0 1", 2), number.FromInt(1)},
		{form("2 -2 -1 1", 1), number.FromInt(1)},
		{form("2 -2 -1 1", 2), rootOf(2)},
		{form("576 0 -960 0 352 0 -40 0 1", 7), rootsOf(2, 3, 5)},
		{formOf(append(append([]api.Rat{rational.Neg(sample.Long(2, 0, 1, 600))}, sample.Of("0")...), sample.Of("1")...), 1), specimen.Must(number.Mul(little, rootOf(2)))},
	} {
		for _, bits := range []int{0, 1, 30, 1023, 1024} {
			expectEnclose(t, row.form, row.a, bits)
		}
	}
}

// P10.1: forms that are not valid, and numbers of bits that are out of range.
func TestEncloseErrors(t *testing.T) {
	check := func(a api.Algebraic, bits int) {
		got, e := algebraic.Enclose(a, bits)
		if e != api.ErrInvalid || !sample.SameRat(got.Low, api.Rat{}) || !sample.SameRat(got.High, api.Rat{}) {
			t.Errorf("P10.1: Enclose(%v, %d): %v, %v", a, bits, got, e)
		}
	}
	out := []int{-1, -2, 1025, 1026, 2048, math.MaxInt, math.MinInt, math.MinInt + 1024, 1 << 32, 1<<32 + 10}
	for _, a := range valid() {
		for _, bits := range out {
			check(a, bits)
		}
		if _, e := algebraic.Enclose(a, 3); e != api.OK {
			t.Errorf("P10.1: Enclose(%s, 3): %v", show(a), e)
		}
	}
	for _, a := range invalid() {
		for _, bits := range []int{0, 10, 1024, -1, 1025} {
			check(a, bits)
		}
	}
}
