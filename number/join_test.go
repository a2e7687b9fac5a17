package number_test

import (
	"slices"
	"testing"

	"setsquare/api"
	"setsquare/number"
	"setsquare/rational"
	"setsquare/sample"
)

// expectJoin checks that numbers are joined: they have the same values, in order, and the same radicands.
func expectJoin(t *testing.T, l []api.Number, height int) {
	t.Helper()
	got, e := number.Join(l)
	if e != api.OK || len(got) != len(l) {
		t.Fatalf("P9.1: Join of %d numbers: %d numbers, %v", len(l), len(got), e)
	}
	for k, a := range got {
		if len(a.Radicands) != height || !slices.EqualFunc(a.Radicands, got[0].Radicands, same) {
			t.Fatalf("P9.1: Join: %d radicands, want %d: %.900s", len(a.Radicands), height, show(a))
		}
		if !near(value(a), value(l[k])) {
			t.Fatalf("P9.1: Join: number %d was %.900s: %.900s", k, show(l[k]), show(a))
		}
	}
	if len(got) > 0 && !number.Valid(got[0]) {
		t.Fatalf("P9.1: Join: not valid: %.900s", show(got[0]))
	}
	for _, a := range got {
		if len(a.Coefs) != 1<<height {
			t.Fatalf("P9.1: Join: %d coefficients: %.900s", len(a.Coefs), show(a))
		}
	}
}

// P9.1: numbers get the same radicands, as many as the height of the list.
func TestJoin(t *testing.T) {
	lower := 0
	pairs(500, 2, func(s *source, a, b api.Number) {
		l := []api.Number{a, b, s.Constructible(s.Below(3)), s.Variant(b, 3), whole(int64(s.Below(9) - 4))}
		l = l[:1+s.Below(5)]
		sum := 0
		for _, c := range l {
			sum += len(c.Radicands)
		}
		most := height(l...)
		if most > 0 && most < sum {
			lower++
		}
		expectJoin(t, l, most)
		slices.Reverse(l)
		expectJoin(t, l, most)
	})
	if lower < 200 {
		t.Errorf("the samples have too few lists that are lower than the sum of the heights: %d", lower)
	}
}

// P9.1: no number, one number, equal numbers, and radicands that are squares in the tower of another number.
func TestJoinTable(t *testing.T) {
	nested := numberOf("2, 1 1", "0 0 1 0")
	for k, row := range []struct {
		l      []api.Number
		height int
	}{
		{nil, 0},
		{[]api.Number{}, 0},
		{[]api.Number{whole(5)}, 0},
		{[]api.Number{whole(5), number.FromRat(rational.Frac(1, 3)), whole(5)}, 0},
		{[]api.Number{rootOf(2)}, 1},
		{[]api.Number{numberOf("2", "5 0")}, 1},
		{[]api.Number{numberOf("2, 3 0", "0 0 1 0")}, 2},
		{[]api.Number{rootOf(2), rootOf(2), rootOf(2)}, 1},
		{[]api.Number{rootOf(2), rootOf(8)}, 1},
		{[]api.Number{rootOf(2), rootOf(3), rootOf(6)}, 2},
		{[]api.Number{rootOf(6), rootOf(10), rootOf(15), rootOf(30)}, 3},
		{[]api.Number{rootOf(2), rootOf(3), numberOf("6, 5 2", "0 0 1 0")}, 2},
		{[]api.Number{numberOf("6, 5 2", "0 0 1 0"), rootOf(2)}, 2},
		{[]api.Number{numberOf("6, 5 2", "0 1 0 0"), rootOf(2)}, 2},
		{[]api.Number{numberOf("2, 3 0", "1 0 0 0"), numberOf("3, 2 0", "0 1 1 0")}, 2},
		{[]api.Number{nested, rootOf(2)}, 2},
		{[]api.Number{rootOf(2), nested}, 2},
		{[]api.Number{rootOf(3), nested}, 3},
		// The square roots of 1 + sqrt 2 and of 3 + 2 sqrt 2 times it.
		{[]api.Number{nested, numberOf("2, 7 5", "0 0 1 0")}, 2},
		// The same divided by the square root of 2, and the inverse, with sqrt 8 instead of sqrt 2.
		{[]api.Number{nested, numberOf("8, 1/2 1/4", "0 0 1 0")}, 2},
		{[]api.Number{nested, numberOf("8, -1 1/2", "0 0 1 0")}, 2},
		{[]api.Number{nested, numberOf("8, 1/2 1/2", "0 0 1 0")}, 3},
		{[]api.Number{numberOf("2, 3 1", "0 0 1 0"), numberOf("2, 3 -1", "0 0 1 0"), rootOf(7)}, 3},
	} {
		if got := height(row.l...); got != row.height {
			t.Errorf("row %d: the height is %d", k, got)
		}
		expectJoin(t, row.l, row.height)
	}
}

// primes are the first prime numbers.
func primes(n int) []int64 {
	return []int64{2, 3, 5, 7, 11, 13, 17, 19, 23, 29, 31, 37, 41, 43, 47, 53}[:n]
}

// allRoots returns the square roots of some integers.
func allRoots(l []int64) []api.Number {
	var result []api.Number
	for _, n := range l {
		result = append(result, rootOf(n))
	}
	return result
}

// P9.1: the common tower has at most MaxHeight radicands.
func TestJoinMaxHeight(t *testing.T) {
	eight := allRoots(primes(api.MaxHeight))
	expectJoin(t, eight, api.MaxHeight)
	expectJoin(t, append(allRoots([]int64{6, 10, 14, 22 * 13, 2 * 17 * 19, 8, 30, 77}), eight...), api.MaxHeight)
	sum := total(eight...)
	expectJoin(t, []api.Number{sum, rootOf(2 * 3 * 5 * 7 * 11 * 13 * 17 * 19), rootOf(12), sum}, api.MaxHeight)
	for _, l := range [][]api.Number{
		allRoots(primes(api.MaxHeight + 1)),
		{sum, rootOf(23)},
		{rootOf(23), sum},
		{numberOf("23", "1 0"), sum},
		{whole(1), rootOf(46), sum, rootOf(3)},
		{rootsOf(2, 3, 5, 7, 11), rootsOf(7, 13, 17, 19, 23)},
		{sum, must(number.Sqrt(rootOf(2)))},
		{sum, numberOf("2, 1 1", "1 0 0 0")},
	} {
		if got, e := number.Join(l); e != api.ErrTooLarge || len(got) != 0 {
			t.Errorf("P9.1: Join beyond MaxHeight: %d numbers, %v", len(got), e)
		}
	}
}

// raised returns a number with all radicands of some others.
func raised(a api.Number, others ...api.Number) api.Number {
	l, e := number.Join(append([]api.Number{a}, others...))
	if e != api.OK {
		return api.Number{}
	}
	return l[0]
}

// P9.1: sums and so on of numbers with MaxHeight radicands together, and with more.
func TestMaxHeight(t *testing.T) {
	eight := allRoots(primes(api.MaxHeight))
	left, right := total(eight[:5]...), total(eight[3:]...)
	sum, product := value(left), value(left)
	c, e := number.Add(left, right)
	expect(t, "Add", c, e, sum.Add(sum, value(right)))
	c, e = number.Mul(left, right)
	expect(t, "Mul", c, e, product.Mul(product, value(right)))
	c, e = number.Sub(c, c)
	expectSame(t, "Sub", must(c, e), whole(0))
	c, e = number.Div(total(eight...), rootOf(2*3*5*7))
	expectSame(t, "Div", must(number.Mul(must(c, e), rootOf(210))), total(eight...))
	if s, e := number.Cmp(left, right); s != -1 || e != api.OK {
		t.Errorf("P9.1: Cmp: %d, %v", s, e)
	}
	for k, other := range []api.Number{rootOf(23), rootOf(23 * 6), must(number.Sqrt(rootOf(2)))} {
		high := total(eight...)
		for _, operation := range []func(a, b api.Number) (api.Number, api.Errno){number.Add, number.Sub, number.Mul, number.Div} {
			for _, l := range [][2]api.Number{{high, other}, {other, high}} {
				got, e := operation(l[0], l[1])
				expectError(t, "beyond MaxHeight", got, e, api.ErrTooLarge)
			}
		}
		if s, e := number.Cmp(high, other); s != 0 || e != api.ErrTooLarge {
			t.Errorf("P9.1: row %d: Cmp: %d, %v", k, s, e)
		}
		if number.Equal(high, other) || number.Equal(other, high) {
			t.Errorf("P9.1: row %d: Equal: true", k)
		}
	}
}

// P9.1: square roots of numbers with MaxHeight radicands, and one less.
func TestSqrtMaxHeight(t *testing.T) {
	eight := allRoots(primes(api.MaxHeight))
	high := total(eight...)
	for k, a := range []api.Number{high, number.Neg(high), total(eight[0], eight[7]), raised(whole(0), high), raised(whole(3), high), rootOf(38)} {
		square := must(number.Mul(a, a))
		if len(a.Radicands) < api.MaxHeight {
			square = raised(square, high)
		}
		w, e := number.Sqrt(square)
		want := value(a)
		expect(t, "Sqrt of the square", w, e, want.Abs(want))
		if k == 0 && len(w.Radicands) != api.MaxHeight {
			t.Errorf("P9.1: Sqrt: %d radicands", len(w.Radicands))
		}
	}
	product := rootOf(2 * 3 * 5 * 7 * 11 * 13 * 17 * 19)
	w, e := number.Sqrt(raised(must(number.Mul(product, product)), high))
	expect(t, "Sqrt of the product", w, e, value(product))
	w, e = number.Sqrt(high)
	expectError(t, "Sqrt", w, e, api.ErrTooLarge)
	w, e = number.Sqrt(must(number.Sub(high, whole(25))))
	expectError(t, "Sqrt", w, e, api.ErrNegative)
	w, e = number.Sqrt(number.Neg(high))
	expectError(t, "Sqrt", w, e, api.ErrNegative)
	seven := total(eight[:7]...)
	w, e = number.Sqrt(seven)
	expect(t, "Sqrt", w, e, value(seven).Sqrt(value(seven)))
	w, e = number.Sqrt(raised(whole(23), seven))
	expectSame(t, "Sqrt", must(w, e), rootOf(23))
}

// P9.1: numbers may have more than MaxHeight radicands, but results may not.
func TestBeyondMaxHeight(t *testing.T) {
	nine := api.Number{Coefs: of("1")}
	for _, n := range primes(api.MaxHeight + 1) {
		r := make([]api.Rat, len(nine.Coefs))
		for p := range r {
			r[p] = rational.FromInt(0)
		}
		r[0] = rational.FromInt(n)
		nine = api.Number{Radicands: append(nine.Radicands, r), Coefs: append(r, nine.Coefs...)}
	}
	if !number.Valid(nine) || number.Height(nine) != api.MaxHeight+1 || number.Sign(nine) != 1 || !number.Equal(nine, clone(nine)) {
		t.Error("P9.1: a number with more than MaxHeight radicands")
	}
	if number.Equal(nine, number.Neg(nine)) || !near(value(number.Trim(nine)), value(nine)) {
		t.Error("P9.1: the opposite of a number with more than MaxHeight radicands")
	}
	for _, operation := range []func(a, b api.Number) (api.Number, api.Errno){number.Add, number.Sub, number.Mul, number.Div} {
		got, e := operation(nine, nine)
		expectError(t, "beyond MaxHeight", got, e, api.ErrTooLarge)
		got, e = operation(rootOf(2), nine)
		expectError(t, "beyond MaxHeight", got, e, api.ErrTooLarge)
	}
	square := api.Number{Radicands: nine.Radicands, Coefs: sample.Zeros(len(nine.Coefs))}
	square.Coefs[0] = rational.FromInt(4 * 23)
	got, e := number.Sqrt(square)
	expectError(t, "beyond MaxHeight", got, e, api.ErrTooLarge)
	if l, e := number.Join([]api.Number{nine}); e != api.ErrTooLarge || len(l) != 0 {
		t.Errorf("P9.1: Join of a number with more than MaxHeight radicands: %v", e)
	}
}

// P9.1: ErrZero comes before ErrTooLarge.
func TestOrderOfErrors(t *testing.T) {
	high := rootsOf(primes(api.MaxHeight)...)
	for _, zero := range []api.Number{whole(0), numberOf("23", "0 0")} {
		got, e := number.Div(high, zero)
		expectError(t, "Div by 0", got, e, api.ErrZero)
	}
	got, e := number.Div(rootOf(23), raised(whole(0), high))
	expectError(t, "Div by 0", got, e, api.ErrZero)
	got, e = number.Sqrt(number.Neg(high))
	expectError(t, "Sqrt", got, e, api.ErrNegative)
}

// P9.1: ErrTooLarge is not returned if the height of the list is at most MaxHeight, though there are more radicands.
func TestNotTooLarge(t *testing.T) {
	left := rootsOf(2, 3, 5, 7, 11, 13)
	right := rootsOf(6, 15, 35, 77, 143, 17)
	for k, a := range []api.Number{right, must(number.Mul(right, right)), total(right, rootOf(19))} {
		sum, e := number.Add(left, a)
		want := value(left)
		expect(t, "Add", sum, e, want.Add(want, value(a)))
		if _, e := number.Cmp(left, a); e != api.OK {
			t.Errorf("P9.1: row %d: Cmp: %v", k, e)
		}
		expectJoin(t, []api.Number{left, a}, 7+k/2)
	}
}

// P9.1: the radicands that Join has to find belong to towers of another order, with square factors.
func TestJoinVariants(t *testing.T) {
	s := source{Source: 93}
	for range 150 {
		a := s.Constructible(1 + s.Below(4))
		b := s.Variant(a, len(a.Radicands))
		expectJoin(t, []api.Number{a, b}, len(a.Radicands))
		expectSame(t, "a variant", a, b)
		if a := (api.Number{Radicands: a.Radicands, Coefs: sample.Zeros(len(a.Coefs))}); number.Equal(a, b) != (number.Sign(b) == 0) {
			t.Fatalf("P9.1: Equal(%.900s, %.900s)", show(a), show(b))
		}
	}
}
