package sign_test

import (
	"testing"

	"setsquare/api"
	"setsquare/sample"
	"setsquare/sign"
	"setsquare/tower"
)

// checkNothing checks that no function has a result for a tower and an element.
func checkNothing(t *testing.T, tw [][]api.Rat, a []api.Rat) {
	t.Helper()
	for _, bits := range []int{-1, 0, 10, sign.MaxBits, sign.MaxBits + 1} {
		if i := sign.Enclose(tw, a, bits); !isZeroInterval(i) {
			t.Fatalf("P7.1: Enclose(%v, %v, %d): %v", tw, a, bits, i)
		}
	}
	if n := sign.Floor(tw, a); n.Neg || len(n.Mag) > 0 {
		t.Fatalf("P7.1: Floor(%v, %v): %v", tw, a, n)
	}
	if n := sign.Sign(tw, a); n != 0 {
		t.Fatalf("P7.1: Sign(%v, %v): %d", tw, a, n)
	}
	for _, b := range [][]api.Rat{a, nil, nought(len(a)), nought(1 << min(len(tw), 6))} {
		if n, m := sign.Cmp(tw, a, b), sign.Cmp(tw, b, a); n != 0 || m != 0 {
			t.Fatalf("P7.1: Cmp(%v, %v, %v): %d and %d", tw, a, b, n, m)
		}
	}
}

// P7.1: there are no results for towers and elements that are not formed.
func TestFormed(t *testing.T) {
	scenes(40, 4, func(s *source, x scene) {
		for _, a := range sample.OtherLists(x.a) {
			checkNothing(t, x.tower, a)
		}
		for _, tw := range sample.OtherTowers(x.tower) {
			if sign.Real(tw) {
				t.Fatalf("P7.1: Real(%v): true", tw)
			}
			checkNothing(t, tw, x.a)
			checkNothing(t, tw, nil)
		}
	})
}

// P7.1: there are no results for towers that are not real, even for elements that are rational.
func TestNotReal(t *testing.T) {
	for _, text := range []string{"0", "-1", "-1/4", "2, 0 0", "2, 1 -1", "-2, 3 0", "4, 2 -1", "0, 1 0", "2, 3 0, 0 1 -1 0", "2, 8 0, 0 2 -1 0", "2, -3 0, 1 0 0 0"} {
		tw := towerOf(text)
		if sign.Real(tw) {
			t.Errorf("P7.1: Real([%s]): true", text)
		}
		for _, element := range []string{"0", "1", "-7/2", "1 1", "0 1", "3 -2"} {
			checkNothing(t, tw, raised(tw, of(element)))
		}
		checkNothing(t, tw, tower.Root(tw, len(tw)-1))
	}
}
