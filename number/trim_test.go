package number_test

import (
	"slices"
	"testing"

	"setsquare/api"
	"setsquare/number"
	"setsquare/rational"
)

// occurs reports whether a radicand occurs in an element, as the chapter defines it.
func occurs(t [][]api.Rat, a []api.Rat, i int) bool {
	for p, c := range a {
		if p>>i&1 == 1 && rational.Sign(c) != 0 {
			return true
		}
	}
	for k := i + 1; k < len(t); k++ {
		if occurs(t[:k], t[k], i) && occurs(t, a, k) {
			return true
		}
	}
	return false
}

// P9.1: Trim leaves out the radicands that do not occur; Height is the number of all radicands of its argument.
func TestTrim(t *testing.T) {
	left := map[int]int{}
	check := func(a api.Number) {
		var want [][]api.Rat
		for i, r := range a.Radicands {
			if occurs(a.Radicands, a.Coefs, i) {
				want = append(want, r)
			}
		}
		got := number.Trim(a)
		if !number.Valid(got) || !near(value(got), value(a)) || len(got.Radicands) != len(want) {
			t.Fatalf("P9.1: Trim(%.900s): %.900s", show(a), show(got))
		}
		expectHeights(t, a, got)
		for k, r := range want {
			// The radicands are the same, and in order: their values are.
			first := api.Number{Radicands: a.Radicands[:place(a.Radicands, r)], Coefs: r}
			if !near(value(api.Number{Radicands: got.Radicands[:k], Coefs: got.Radicands[k]}), value(first)) {
				t.Fatalf("P9.1: Trim(%.900s): radicand %d: %.900s", show(a), k, show(got))
			}
		}
		left[len(a.Radicands)-len(want)]++
	}
	pairs(600, 4, func(s *source, a, b api.Number) {
		check(a)
		check(s.Variant(b, 5))
	})
	for k := range 3 {
		if left[k] < 100 {
			t.Errorf("the samples have too few cases: %v", left)
		}
	}
}

// expectHeights checks the numbers of radicands of numbers.
func expectHeights(t *testing.T, l ...api.Number) {
	t.Helper()
	for _, a := range l {
		if got := number.Height(a); got != len(a.Radicands) {
			t.Errorf("P9.1: Height(%.900s): %d", show(a), got)
		}
	}
}

// P9.1: Height also counts the radicands that do not occur; only Trim leaves them out.
func TestHeight(t *testing.T) {
	for _, row := range []struct {
		radicands, coefs string
		all, needed      int
	}{
		{"", "5", 0, 0},
		{"2", "-1/2 0", 1, 0},
		{"2", "-1/2 1", 1, 1},
		{"2, 3 0", "0 0 0 0", 2, 0},
		{"2, 3 0", "1 2 0 0", 2, 1},
		{"2, 1 1", "0 0 2 0", 2, 2},
		{"2, 3 0, 5 0 0 0", "1 0 0 0 0 0 4 0", 3, 2},
	} {
		a := numberOf(row.radicands, row.coefs)
		if got, trimmed := number.Height(a), number.Height(number.Trim(a)); got != row.all || trimmed != row.needed {
			t.Errorf("P9.1: Height(%s): %d, and %d for the trimmed number", show(a), got, trimmed)
		}
	}
	joined, e := number.Join([]api.Number{rootOf(2), number.FromInt(3), rootOf(6), rootOf(3)})
	if e != api.OK || len(joined) != 4 {
		t.Fatalf("P9.1: Join: %v, %v", joined, e)
	}
	for _, a := range joined {
		if number.Height(a) != 2 {
			t.Errorf("P9.1: Height(%s): %d", show(a), number.Height(a))
		}
	}
}

// place returns the place of a radicand.
func place(t [][]api.Rat, r []api.Rat) int {
	return slices.IndexFunc(t, func(other []api.Rat) bool { return len(other) == len(r) })
}

// P9.1: radicands that occur only in other radicands, or only in coefficients.
func TestTrimTable(t *testing.T) {
	for _, row := range []struct{ radicands, coefs, wantRadicands, wantCoefs string }{
		{"", "5", "", "5"},
		{"2", "5 0", "", "5"},
		{"2", "0 0", "", "0"},
		{"2", "5 1", "2", "5 1"},
		{"2, 3 0", "1 2 0 0", "2", "1 2"},
		{"2, 3 0", "1 0 2 0", "3", "1 2"},
		{"2, 3 0", "0 0 0 2", "2, 3 0", "0 0 0 2"},
		{"2, 3 0", "7 0 0 0", "", "7"},
		{"2, 1 1", "0 0 2 0", "2, 1 1", "0 0 2 0"},
		{"2, 1 1", "3 2 0 0", "2", "3 2"},
		{"2, 3 0, 0 0 1 0", "1 0 0 0 4 0 0 0", "3, 0 1", "1 0 4 0"},
		{"2, 3 0, 0 1 0 0", "1 0 0 0 4 0 0 0", "2, 0 1", "1 0 4 0"},
		{"2, 3 0, 5 0 0 1", "1 0 0 0 4 0 0 0", "2, 3 0, 5 0 0 1", "1 0 0 0 4 0 0 0"},
		{"2, 3 0, 5 0 0 0", "1 0 0 0 0 0 4 0", "3, 5 0", "1 0 0 4"},
		{"2, 3 0, 5 0 0 0", "1 0 0 0 0 4 0 0", "2, 5 0", "1 0 0 4"},
		{"2, 1 1, 0 0 1 0", "0 0 0 0 1 0 0 0", "2, 1 1, 0 0 1 0", "0 0 0 0 1 0 0 0"},
		{"2, 1 1, 3 0 0 0", "0 0 0 0 1 0 0 0", "3", "0 1"},
		{"2, 1 1, 3 0 0 0", "0 0 1 0 0 0 0 0", "2, 1 1", "0 0 1 0"},
		{"2, 1 1, 3 0 0 0, 0 0 0 0 1 0 0 0", "0 0 0 0 0 0 0 0 0 1 0 0 0 0 0 0", "2, 3 0, 0 0 1 0", "0 0 0 0 0 1 0 0"},
	} {
		a, want := numberOf(row.radicands, row.coefs), numberOf(row.wantRadicands, row.wantCoefs)
		got := number.Trim(a)
		if !number.Valid(a) || !identical(got, want) {
			t.Errorf("P9.1: Trim(%s): %s", show(a), show(got))
		}
		expectHeights(t, a, got)
	}
}
