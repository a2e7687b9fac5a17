package number_test

import (
	"testing"

	"setsquare/api"
	"setsquare/number"
	"setsquare/rational"
	"setsquare/sample"
)

// P9.1: signs, comparisons and equality agree with the values.
func TestOrder(t *testing.T) {
	equal := 0
	pairs(1500, 3, func(s *source, a, b api.Number) {
		if s.Below(4) == 0 {
			b = s.Variant(a, 3)
		}
		x, y := value(a), value(b)
		want := order(x, y)
		if got := number.Sign(a); got != order(x, value(whole(0))) {
			t.Fatalf("P9.1: Sign(%.900s): %d", show(a), got)
		}
		got, e := number.Cmp(a, b)
		if got != want || e != api.OK {
			t.Fatalf("P9.1: Cmp(%.900s, %.900s): %d, %v", show(a), show(b), got, e)
		}
		if number.Equal(a, b) != (want == 0) {
			t.Fatalf("P9.1: Equal(%.900s, %.900s): %v", show(a), show(b), want != 0)
		}
		if want == 0 && len(a.Radicands) > 0 {
			equal++
		}
	})
	if equal < 300 {
		t.Errorf("the samples have too few equal numbers: %d", equal)
	}
}

// P9.1: numbers that differ by very little, in the same tower and in different ones.
func TestNearNumbers(t *testing.T) {
	for _, digits := range []int{5, 20, 60, 300, 900} {
		small := number.FromRat(sample.Long(1, 0, 1, digits))
		for _, pair := range [][2]api.Number{
			{whole(7), whole(7)},
			{rootOf(2), rootOf(2)},
			{rootOf(2), numberOf("8", "0 1/2")},
			{rootsOf(2, 3), must(number.Sqrt(total(whole(5), rootOf(6), rootOf(6))))},
			{rootsOf(2, 3, 5), rootsOf(3, 2, 5)},
		} {
			a, b := pair[0], pair[1]
			more, less := must(number.Add(b, small)), must(number.Sub(b, small))
			for k, other := range []api.Number{less, b, more} {
				if s, e := number.Cmp(a, other); s != 1-k || e != api.OK {
					t.Errorf("P9.1: %d digits: Cmp(%.300s, %.300s): %d, %v", digits, show(a), show(other), s, e)
				}
				if number.Equal(a, other) != (k == 1) || number.Equal(other, a) != (k == 1) {
					t.Errorf("P9.1: %d digits: Equal(%.300s, %.300s)", digits, show(a), show(other))
				}
				if s := number.Sign(must(number.Sub(other, a))); s != k-1 {
					t.Errorf("P9.1: %d digits: Sign: %d", digits, s)
				}
			}
		}
	}
}

// P9.1: Cmp and Equal for particular numbers.
func TestOrderTable(t *testing.T) {
	for k, row := range []struct {
		a, b api.Number
		want int
	}{
		{whole(0), whole(0), 0},
		{whole(-1), whole(0), -1},
		{whole(2), whole(-3), 1},
		{number.FromRat(rational.Frac(1, 3)), number.FromRat(rational.Frac(1, 2)), -1},
		{whole(3), numberOf("2", "3 0"), 0},
		{numberOf("5", "3 0"), numberOf("2", "3 0"), 0},
		{numberOf("5", "3 0"), numberOf("2", "0 3"), -1},
		{numberOf("2", "0 0"), numberOf("3, 2 0", "0 0 0 0"), 0},
		{rootOf(2), rootOf(3), -1},
		{rootOf(2), numberOf("1/2", "0 2"), 0},
		{rootOf(2), number.Neg(rootOf(2)), 1},
		{number.Neg(rootOf(2)), number.Neg(numberOf("8", "0 1/2")), 0},
		{rootOf(2), number.FromRat(rational.Frac(141421356, 100000000)), 1},
		{rootOf(2), number.FromRat(rational.Frac(141421357, 100000000)), -1},
		{rootsOf(2, 3), rootOf(10), -1},
		{rootsOf(2, 3, 5), rootsOf(2, 3, 6), -1},
		{must(number.Sqrt(numberOf("3", "2 1"))), must(number.Div(rootsOf(6, 2), whole(2))), 0},
		{must(number.Mul(rootOf(2), rootOf(3))), rootOf(6), 0},
		{numberOf("2, 3 0", "0 0 1 0"), rootOf(3), 0},
		{numberOf("2, 3 0", "0 0 1 0"), numberOf("5, 3 0", "0 0 1 0"), 0},
	} {
		for _, other := range []api.Number{row.b, raised(row.b, rootOf(7))} {
			got, e := number.Cmp(row.a, other)
			back, f := number.Cmp(other, row.a)
			if got != row.want || back != -row.want || e != api.OK || f != api.OK {
				t.Errorf("P9.1: row %d: Cmp: %d, %v, %d, %v", k, got, e, back, f)
			}
			if number.Equal(row.a, other) != (row.want == 0) || number.Equal(other, row.a) != (row.want == 0) {
				t.Errorf("P9.1: row %d: Equal: %v", k, number.Equal(row.a, other))
			}
		}
	}
}

// conjugates returns the square root of n n - m, as the product of those of n + sqrt m and n - sqrt m.
func conjugates(n, m int64) api.Number {
	a, b := must(number.Sqrt(total(whole(n), rootOf(m)))), must(number.Sqrt(must(number.Sub(whole(n), rootOf(m)))))
	return must(number.Mul(a, b))
}

// expectEqual checks Equal for numbers whose list is higher than MaxHeight.
func expectEqual(t *testing.T, name string, a, b api.Number, want bool) {
	t.Helper()
	if _, e := number.Join([]api.Number{a, b}); e != api.ErrTooLarge {
		t.Errorf("%s: there is a common tower: %v", name, e)
	}
	if number.Equal(a, b) != want || number.Equal(b, a) != want {
		t.Errorf("P9.1: %s: Equal: %v", name, !want)
	}
}

// P9.1: Equal decides even if a common tower has more than MaxHeight radicands.
func TestEqualHigh(t *testing.T) {
	first, second := rootsOf(2, 3, 5, 7, 11, 13, 17, 19), rootsOf(23, 29, 31, 37, 41, 43, 47, 53)
	expectEqual(t, "different sums", first, second, false)
	expectEqual(t, "a square root", first, rootOf(23), false)
	expectEqual(t, "rational numbers", raised(whole(5), first), raised(whole(5), second), true)
	expectEqual(t, "different rational numbers", raised(whole(5), first), raised(whole(6), second), false)
	expectEqual(t, "a rational number", raised(whole(5), first), second, false)
	seven := rootsOf(23, 29, 31, 37, 41, 43, 47)
	expectEqual(t, "a square root that both towers contain", raised(rootOf(2), first), raised(numberOf("8", "0 1/2"), seven), true)
	expectEqual(t, "different square roots", raised(rootOf(2), first), raised(rootOf(3), seven), false)

	// The square root of 7 needs three radicands here, of which none can be left out, and the others are different.
	a, b := conjugates(3, 2), conjugates(10, 93)
	if number.Height(number.Trim(a)) != 3 || number.Height(number.Trim(b)) != 3 || !number.Equal(a, b) || !number.Equal(a, rootOf(7)) {
		t.Errorf("P9.1: the square root of 7: %s and %s", show(a), show(b))
	}
	left, right := total(a, rootsOf(11, 13, 17, 23)), total(b, rootsOf(23, 17, 13, 11))
	small := number.FromRat(sample.Long(1, 0, 1, 60))
	for range 2 {
		expectEqual(t, "sums", left, right, true)
		expectEqual(t, "sums that differ by very little", left, must(number.Add(right, small)), false)
		expectEqual(t, "opposite sums", left, number.Neg(right), false)
		left, right = total(left, rootOf(19)), total(right, rootOf(19))
	}
}

// P9.1: Equal decides for numbers with MaxHeight radicands each, all of which are needed.
func TestEqualHighest(t *testing.T) {
	for _, most := range []int{3, 4, 6} {
		// Both fields contain the square root of 2, and no other number in common.
		left, right := hidden(2, []int64{3, 5, 7, 11, 13, 17}[:most]...), hidden(2, []int64{19, 23, 29, 31, 37, 41}[:most]...)
		if number.Height(number.Trim(left)) != most+2 || number.Height(number.Trim(right)) != most+2 {
			t.Errorf("the numbers need fewer radicands: %s and %s", show(left), show(right))
		}
		expectEqual(t, "the square root of 2", left, right, true)
		expectEqual(t, "the square roots of 2 and 3", left, hidden(3, 19, 23, 29, 31, 37), false)
		for _, digits := range []int{60, 200} {
			small := number.FromRat(sample.Long(1, 0, 1, digits))
			expectEqual(t, "nearly the square root of 2", left, must(number.Add(right, small)), false)
		}
	}
	left, right := total(hidden(2, 11, 13), hidden(3, 17, 19)), total(hidden(3, 23, 29), hidden(2, 31, 37))
	expectEqual(t, "the sum of the square roots of 2 and 3", left, right, true)
	expectEqual(t, "an opposite sum", left, number.Neg(right), false)
	left, right = total(hidden(2, 5, 7), rootsOf(11, 13, 17, 19)), total(hidden(2, 31, 37), rootsOf(11, 13, 17, 19))
	expectEqual(t, "the sum of five square roots", left, right, true)
}

// P9.1: the sums of these square roots differ by less than 10^-42: the difference is the eighth one of the square roots of
// nine successive integers.
func TestEqualNearlySums(t *testing.T) {
	even, odd := whole(0), whole(0)
	for k, factor := range []int64{1, 8, 28, 56, 70, 56, 28, 8, 1} {
		term := must(number.Mul(whole(factor), rootOf(int64(1000000+k))))
		if k%2 == 0 {
			even = total(even, term)
		} else {
			odd = total(odd, term)
		}
	}
	// The first square root is rational, so one more is needed.
	expectEqual(t, "differences of square roots", total(even, rootOf(2)), total(odd, rootOf(2)), false)
}

// hidden returns the square root of n as a product of the square roots of y and n / y, where y contains some square roots.
func hidden(n int64, l ...int64) api.Number {
	y := total(whole(1), rootsOf(l...))
	return must(number.Mul(must(number.Sqrt(y)), must(number.Sqrt(must(number.Div(whole(n), y))))))
}
