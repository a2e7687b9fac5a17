package sturm_test

import (
	"math/big"
	"testing"

	"setsquare/api"
	"setsquare/interval"
	"setsquare/rational"
	"setsquare/sturm"
)

// contains returns the number of roots that an interval contains, which is valid.
func contains(k known, i api.Interval) int { return k.count(value(i.Low), value(i.High)) }

// checkIsolate checks that there are as many valid intervals as there are roots, each with one root, in ascending order.
func checkIsolate(t *testing.T, k known) {
	t.Helper()
	all := sturm.Isolate(k.poly)
	if len(all) != len(k.roots) {
		t.Fatalf("P5.1: Isolate(%.300s): got %d intervals for %d roots", show(k.poly), len(all), len(k.roots))
	}
	for n, i := range all {
		switch {
		case !interval.Valid(i) || contains(k, i) != 1:
			t.Fatalf("P5.1: Isolate(%.300s): %s does not contain one root", show(k.poly), showInterval(i))
		case n > 0 && rational.Cmp(i.Low, all[n-1].High) < 0:
			t.Fatalf("P5.1: Isolate(%.300s): %s follows %s", show(k.poly), showInterval(i), showInterval(all[n-1]))
		}
	}
}

// P5.1: the intervals of all kinds of polynomials.
func TestIsolate(t *testing.T) {
	polynomials(func(s *source, k known) { checkIsolate(t, k) })
}

// P5.1: polynomials of great degrees, with roots that are close to one another or far apart, and with ends and middles of
// intervals that are roots.
func TestIsolateGreat(t *testing.T) {
	for _, k := range great() {
		checkIsolate(t, k)
	}
}

// widths are positive numbers: small and great ones, and such that are no powers of 1/2.
func widths() []api.Rat {
	return []api.Rat{fraction("1000000"), fraction("3"), fraction("1/7"), fraction("1/65536"), normal(new(big.Rat).SetFrac(big.NewInt(5), power(3, 150)))}
}

// checkRefine checks Refine for an interval that contains one root.
func checkRefine(t *testing.T, k known, i api.Interval, width api.Rat) {
	t.Helper()
	got, e := sturm.Refine(k.poly, i, width)
	if e != api.OK || !interval.Valid(got) || !interval.Within(got, i) || rational.Cmp(interval.Width(got), width) > 0 || contains(k, got) != 1 {
		t.Fatalf("P5.1: Refine(%.300s, %s, %s): got %s, %v", show(k.poly), showInterval(i), rational.Format(width), showInterval(got), e)
	}
}

// checkFailure checks that Refine and Root return ErrInvalid.
func checkFailure(t *testing.T, a []api.Rat, i api.Interval) {
	t.Helper()
	for _, width := range []api.Rat{fraction("1/3"), fraction("0")} {
		if got, e := sturm.Refine(a, i, width); e != api.ErrInvalid || !isZero(got) {
			t.Fatalf("P5.1: Refine(%.300s, %v, %v): got %v, %v", show(a), i, width, got, e)
		}
	}
	if n, e := sturm.Root(a, i); n != 0 || e != api.ErrInvalid {
		t.Fatalf("P5.1: Root(%.300s, %v): got %d, %v", show(a), i, n, e)
	}
}

// isZero reports whether an interval is the zero value of its type.
func isZero(i api.Interval) bool {
	return sameRat(i.Low, api.Rat{}) && sameRat(i.High, api.Rat{})
}

// check checks Refine and Root for any interval of valid numbers.
func check(t *testing.T, s *source, k known, i api.Interval) {
	t.Helper()
	if !interval.Valid(i) || contains(k, i) != 1 {
		checkFailure(t, k.poly, i)
		return
	}
	checkRefine(t, k, i, widths()[s.below(len(widths()))])
	want := 0
	for _, r := range k.roots {
		if r.cmp(value(i.Low)) <= 0 {
			want++
		}
	}
	if n, e := sturm.Root(k.poly, i); n != want || e != api.OK {
		t.Fatalf("P5.1: Root(%.300s, %s): got %d, %v, want %d", show(k.poly), showInterval(i), n, e, want)
	}
}

// P5.1: the number of a root, and narrow parts of intervals, for intervals that contain one root; ErrInvalid for those
// that contain no root or more than one, or whose ends are exchanged.
func TestRefine(t *testing.T) {
	polynomials(func(s *source, k known) {
		for range 6 {
			check(t, s, k, api.Interval{Low: normal(s.end(k)), High: normal(s.end(k))})
		}
		for n, i := range sturm.Isolate(k.poly) {
			check(t, s, k, i)
			if got, e := sturm.Root(k.poly, i); got != n || e != api.OK {
				t.Fatalf("P5.1: Root(%.300s, %s): got %d, %v, want %d", show(k.poly), showInterval(i), got, e, n)
			}
		}
	})
}

// P5.1: ends and middles of intervals that are roots: Low does not belong to it, but High does.
func TestRefineRows(t *testing.T) {
	three := product(big.NewRat(-2, 1), []factor{linear(big.NewRat(-1, 1)), linear(new(big.Rat)), linear(big.NewRat(1, 1))}, []int{1, 2, 3})
	sqrt := product(big.NewRat(1, 3), []factor{quadratic(new(big.Rat), big.NewRat(2, 1))}, []int{1})
	for _, x := range []struct {
		k         known
		low, high string
		root      int
	}{
		{three, "-1", "0", 1}, {three, "0", "1", 2}, {three, "-1/1000", "0", 1}, {three, "0", "100", 2}, {three, "0", "2", 2}, {three, "-100", "-1", 0}, {three, "-2", "0", -1}, {three, "-2", "-1", 0}, {three, "-1", "1/3", 1}, {three, "-1/3", "1/3", 1}, {three, "-1/2", "1", -1},
		{three, "-1", "1", -1}, {three, "0", "0", -1}, {three, "1", "1", -1}, {three, "1", "2", -1}, {three, "-1", "-1/2", -1}, {three, "1/3", "2/3", -1}, {three, "1", "0", -1}, {three, "0", "-1", -1}, {three, "999999999999/1000000000000", "1", 2},
		{sqrt, "0", "2", 1}, {sqrt, "-2", "0", 0}, {sqrt, "-2", "2", -1}, {sqrt, "0", "1", -1}, {sqrt, "2", "0", -1}, {sqrt, "7/5", "10000000000000000000000000", 1}, {sqrt, "-10000000000000000000000000", "1", 0},
	} {
		i := from(x.low, x.high)
		if x.root < 0 {
			checkFailure(t, x.k.poly, i)
			continue
		}
		for _, width := range append(widths(), interval.Width(i)) {
			checkRefine(t, x.k, i, width)
		}
		if n, e := sturm.Root(x.k.poly, i); n != x.root || e != api.OK {
			t.Errorf("P5.1: Root(%s, %s): got %d, %v", show(x.k.poly), showInterval(i), n, e)
		}
	}
}

// P5.1: widths that are not positive, intervals that are not valid, and polynomials without roots.
func TestRefineErrors(t *testing.T) {
	one, two := fraction("1"), fraction("2")
	negative := api.Rat{Num: one.Num, Den: api.Int{Neg: true, Mag: []uint32{1}}}
	quarters := api.Rat{Num: api.Int{Mag: []uint32{6}}, Den: api.Int{Mag: []uint32{4}}}
	for _, i := range []api.Interval{{}, {Low: one}, {High: two}, {Low: negative, High: two}, {Low: one, High: quarters}, {Low: quarters, High: two}, from("2", "1"), from("3/2", "7/5")} {
		checkFailure(t, of("-2 0 1"), i)
	}
	for _, width := range []string{"0", "-1", "-1/1000"} {
		if got, e := sturm.Refine(of("-2 0 1"), from("1", "2"), fraction(width)); e != api.ErrInvalid || !isZero(got) {
			t.Errorf("P5.1: Refine with the width %s: got %v, %v", width, got, e)
		}
	}
	for _, a := range rootless() {
		for _, i := range []api.Interval{from("-1000", "1000"), from("0", "0"), from("0", "1"), from("1", "0"), {}} {
			checkFailure(t, a, i)
		}
	}
}

// P5.1: a very small width, for roots that are rational, irrational, multiple, and close to others.
func TestRefineNarrow(t *testing.T) {
	width := normal(new(big.Rat).SetFrac(big.NewInt(1), power(2, 1500)))
	s := source(54)
	for _, k := range []known{crowd(), wilkinson(12), s.known(3), s.known(4), s.known(5)} {
		for _, i := range sturm.Isolate(k.poly) {
			checkRefine(t, k, i, width)
		}
	}
}
