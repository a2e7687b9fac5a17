package interval_test

import (
	"math"
	"math/big"
	"testing"

	"setsquare/api"
	"setsquare/interval"
)

// someBits are precisions: both limits, and numbers near multiples of 32.
var someBits = []int{0, 1, 2, 3, 31, 32, 33, 63, 64, 65, 100}

// unit returns 2^-bits.
func unit(bits int) *big.Rat { return new(big.Rat).SetFrac(big.NewInt(1), power(2, bits)) }

func square(x *big.Rat) *big.Rat { return new(big.Rat).Mul(x, x) }

// isMultiple reports whether a number is a multiple of 2^-bits.
func isMultiple(x *big.Rat, bits int) bool {
	return new(big.Rat).Quo(x, unit(bits)).IsInt()
}

// checkRound checks that no greater Low and no less High has the properties that Round demands.
func checkRound(t *testing.T, a api.Interval, bits int) {
	t.Helper()
	got := interval.Round(a, bits)
	if !interval.Valid(got) {
		t.Fatalf("P3.1: Round(%s, %d): not valid", show(a), bits)
	}
	low, high := value(got.Low), value(got.High)
	below := new(big.Rat).Sub(value(a.Low), low)
	above := new(big.Rat).Sub(high, value(a.High))
	if !isMultiple(low, bits) || !isMultiple(high, bits) || below.Sign() < 0 || above.Sign() < 0 || below.Cmp(unit(bits)) >= 0 || above.Cmp(unit(bits)) >= 0 {
		t.Fatalf("P3.1: Round(%s, %d): got %s", show(a), bits, show(got))
	}
}

// P3.1: the least interval with ends that are multiples, for ends that are or are not multiples.
func TestRound(t *testing.T) {
	s := source(11)
	for _, bits := range someBits {
		for _, a := range corners() {
			checkRound(t, a, bits)
		}
		for range 300 {
			checkRound(t, s.interval(), bits)
		}
	}
	for _, bits := range []int{interval.MaxBits - 1, interval.MaxBits} {
		for range 20 {
			checkRound(t, s.interval(), bits)
		}
	}
	for _, c := range []struct {
		a    [2]string
		bits int
		want [2]string
	}{
		{[2]string{"1/3", "1/3"}, 0, [2]string{"0", "1"}},
		{[2]string{"-1/3", "-1/3"}, 0, [2]string{"-1", "0"}},
		{[2]string{"1/3", "1/3"}, 2, [2]string{"1/4", "1/2"}},
		{[2]string{"-1/3", "1/3"}, 3, [2]string{"-3/8", "3/8"}},
		{[2]string{"1/4", "1/2"}, 2, [2]string{"1/4", "1/2"}},
		{[2]string{"1/4", "1/2"}, 1, [2]string{"0", "1/2"}},
		{[2]string{"-3/4", "-1/4"}, 1, [2]string{"-1", "0"}},
		{[2]string{"7", "7"}, 5, [2]string{"7", "7"}},
		{[2]string{"0", "0"}, 0, [2]string{"0", "0"}},
		{[2]string{"0", "0"}, interval.MaxBits, [2]string{"0", "0"}},
	} {
		if got := interval.Round(from(c.a[0], c.a[1]), c.bits); !same(got, from(c.want[0], c.want[1])) {
			t.Errorf("P3.1: Round(%v, %d): got %s", c.a, c.bits, show(got))
		}
	}
}

// P3.1: an interval that has the ends already is not changed, and with one bit less it is.
func TestRoundMultiples(t *testing.T) {
	s := source(12)
	for _, bits := range []int{1, 2, 31, 32, 33, 1000, interval.MaxBits} {
		for range 50 {
			odd := func() *big.Rat {
				return new(big.Rat).Mul(big.NewRat(int64(2*s.below(1000)-999), 1), unit(bits))
			}
			a := span(odd(), odd())
			expect(t, "P3.1: Round of multiples", interval.Round(a, bits), value(a.Low), value(a.High))
			expect(t, "P3.1: Round with one bit less", interval.Round(a, bits-1), new(big.Rat).Sub(value(a.Low), unit(bits)), new(big.Rat).Add(value(a.High), unit(bits)))
		}
	}
}

// P3.1: bits beyond the limits lead to a zero Interval.
func TestRoundErrors(t *testing.T) {
	for _, bits := range []int{-1, interval.MaxBits + 1, -64, 1 << 32, math.MinInt, math.MaxInt} {
		for _, a := range []api.Interval{from("1/3", "1/2"), from("0", "0"), from("-1", "1")} {
			if got := interval.Round(a, bits); !none(got) {
				t.Errorf("P3.1: Round(%s, %d): got %s", show(a), bits, show(got))
			}
		}
	}
	if interval.MaxBits != 4096 {
		t.Errorf("P3.1: MaxBits is %d", interval.MaxBits)
	}
}

// checkSqrt checks that no greater Low and no less High has the properties that Sqrt demands.
func checkSqrt(t *testing.T, a api.Interval, bits int) {
	t.Helper()
	got, e := interval.Sqrt(a, bits)
	if e != api.OK || !interval.Valid(got) {
		t.Fatalf("P3.1: Sqrt(%s, %d): got %s, %v", show(a), bits, show(got), e)
	}
	low, high := value(got.Low), value(got.High)
	next := new(big.Rat).Add(low, unit(bits))
	last := new(big.Rat).Sub(high, unit(bits))
	switch {
	case !isMultiple(low, bits), !isMultiple(high, bits), low.Sign() < 0:
		t.Fatalf("P3.1: Sqrt(%s, %d): got %s", show(a), bits, show(got))
	case square(low).Cmp(value(a.Low)) > 0, square(next).Cmp(value(a.Low)) <= 0:
		t.Fatalf("P3.1: Low of Sqrt(%s, %d): got %s", show(a), bits, show(got))
	case square(high).Cmp(value(a.High)) < 0, high.Sign() > 0 && square(last).Cmp(value(a.High)) >= 0:
		t.Fatalf("P3.1: High of Sqrt(%s, %d): got %s", show(a), bits, show(got))
	}
}

// positive returns the absolute values of an interval that has only numbers of one sign, or those up to its High.
func positive(a api.Interval) api.Interval {
	low, high := value(a.Low), value(a.High)
	if high.Sign() <= 0 {
		return span(low.Neg(low), high.Neg(high))
	}
	if low.Sign() < 0 {
		low.SetInt64(0)
	}
	return span(low, high)
}

// P3.1: the square roots of intervals, of squares, of 0, and of very great and very small numbers.
func TestSqrt(t *testing.T) {
	s := source(13)
	for _, bits := range someBits {
		for _, a := range corners() {
			checkSqrt(t, positive(a), bits)
		}
		for range 200 {
			checkSqrt(t, positive(s.interval()), bits)
			x, y := value(s.number()), value(s.number())
			checkSqrt(t, span(square(x), square(y)), bits)
		}
		tiny, huge := unit(5000), new(big.Rat).SetInt(power(3, 700))
		checkSqrt(t, span(tiny, tiny), bits)
		checkSqrt(t, span(new(big.Rat), tiny), bits)
		checkSqrt(t, span(tiny, huge), bits)
		checkSqrt(t, span(huge, huge), bits)
	}
	for _, bits := range []int{interval.MaxBits - 1, interval.MaxBits} {
		for range 10 {
			checkSqrt(t, positive(s.interval()), bits)
		}
	}
}

func TestSqrtRows(t *testing.T) {
	for _, c := range []struct {
		a    [2]string
		bits int
		want [2]string
	}{
		{[2]string{"2", "2"}, 0, [2]string{"1", "2"}},
		{[2]string{"2", "5"}, 0, [2]string{"1", "3"}},
		{[2]string{"4", "4"}, 0, [2]string{"2", "2"}},
		{[2]string{"4", "9"}, 7, [2]string{"2", "3"}},
		{[2]string{"9/4", "9/4"}, 0, [2]string{"1", "2"}},
		{[2]string{"9/4", "9/4"}, 1, [2]string{"3/2", "3/2"}},
		{[2]string{"1/9", "1/9"}, 2, [2]string{"1/4", "1/2"}},
		{[2]string{"0", "0"}, 0, [2]string{"0", "0"}},
		{[2]string{"0", "0"}, interval.MaxBits, [2]string{"0", "0"}},
		{[2]string{"0", "1/1000"}, 3, [2]string{"0", "1/8"}},
		{[2]string{"1/1000", "1/1000"}, 0, [2]string{"0", "1"}},
		{[2]string{"18446744073709551616", "18446744073709551617"}, 0, [2]string{"4294967296", "4294967297"}},
		{[2]string{"18446744073709551615", "18446744073709551615"}, 0, [2]string{"4294967295", "4294967296"}},
	} {
		if got, e := interval.Sqrt(from(c.a[0], c.a[1]), c.bits); e != api.OK || !same(got, from(c.want[0], c.want[1])) {
			t.Errorf("P3.1: Sqrt(%v, %d): got %s, %v", c.a, c.bits, show(got), e)
		}
	}
}

// P3.1: bits beyond the limits are named first, then a negative Low.
func TestSqrtErrors(t *testing.T) {
	negative := []api.Interval{from("-1", "1"), from("-1", "0"), from("-2", "-1"), from("-1/18446744073709551616", "4"), from("-4", "-4")}
	for _, a := range negative {
		for _, bits := range []int{0, 1, interval.MaxBits} {
			if got, e := interval.Sqrt(a, bits); e != api.ErrNegative || !none(got) {
				t.Errorf("P3.1: Sqrt(%s, %d): got %s, %v", show(a), bits, show(got), e)
			}
		}
	}
	for _, a := range append(negative, from("0", "0"), from("4", "9")) {
		for _, bits := range []int{-1, interval.MaxBits + 1, math.MinInt, math.MaxInt} {
			if got, e := interval.Sqrt(a, bits); e != api.ErrInvalid || !none(got) {
				t.Errorf("P3.1: Sqrt(%s, %d): got %s, %v", show(a), bits, show(got), e)
			}
		}
	}
}
