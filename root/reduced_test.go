package root_test

import (
	"testing"

	"setsquare/api"
	"setsquare/rational"
	"setsquare/root"
	"setsquare/sample"
	"setsquare/tower"
)

// checkNotReduced checks that a tower is not reduced, so that there are no square roots in it.
func checkNotReduced(t *testing.T, tw [][]api.Rat) {
	t.Helper()
	if root.Reduced(tw) {
		t.Fatalf("P8.1: Reduced(%.600s): true", sample.Tower(tw))
	}
	for _, n := range []int64{4, -4} {
		checkInvalid(t, tw, raised(tw, []api.Rat{rational.FromInt(n)}))
	}
}

// checkInvalid checks that there is no square root, and that Adjoin returns ErrInvalid.
func checkInvalid(t *testing.T, tw [][]api.Rat, a []api.Rat) {
	t.Helper()
	if w, ok := root.Square(tw, a); ok || len(w) != 0 {
		t.Fatalf("P8.1: Square(%v, %v): %v, %v", tw, a, w, ok)
	}
	if next, w, e := root.Adjoin(tw, a); e != api.ErrInvalid || len(next) != 0 || len(w) != 0 {
		t.Fatalf("P8.1: Adjoin(%v, %v): %v, %v, %v", tw, a, next, w, e)
	}
}

// P8.1: radicands that are 0, negative, or squares, at any place.
func TestReducedTable(t *testing.T) {
	for _, row := range []struct {
		tower   string
		reduced bool
	}{
		{"", true},
		{"2", true},
		{"1/2", true},
		{"6", true},
		{"0", false},
		{"-2", false},
		{"-4", false},
		{"1", false},
		{"4", false},
		{"9/4", false},
		{"2, 3 0", true},
		{"2, 6 0", true},
		{"2, 1 1", true},
		{"2, 0 1", true},
		{"2, -1 1", true},
		{"2, 9 6", true},
		{"2, 0 0", false},
		{"2, 2 0", false},
		{"2, 8 0", false},
		{"2, 9 0", false},
		{"2, 1/2 0", false},
		{"2, 1 -1", false},
		{"2, -3 0", false},
		{"2, 3 2", false},
		{"2, 3 -2", false},
		{"2, 11 6", false},
		{"4, 3 0", false},
		{"0, 3 0", false},
		{"-2, 3 0", false},
		{"2, 3 0, 5 0 0 0", true},
		{"2, 3 0, 0 1 1 0", true},
		{"2, 3 0, 6 0 0 0", false},
		{"2, 3 0, 5 0 0 2", false},
		{"2, 3 0, 5 0 0 -2", false},
		{"2, 3 0, 2 0 1 0", false},
		{"2, 3 0, 0 -1 1 0", true},
		{"2, 3 0, 0 1 -1 0", false},
		{"2, 3 2, 5 0 0 0", false},
		{"2, 1 1, 0 0 1 0", true},
		{"2, 1 1, 1 1 0 0", false},
		{"2, 1 1, 7 5 0 0", false},
		{"2, 1 1, 2 1 -2 0", false},
		{"2, 1 1, -1 1 0 0", false},
		{"2, 3 0, 5 0 0 0, 30 0 0 0 0 0 0 0", false},
		{"2, 3 0, 5 0 0 0, 10 0 0 2 0 2 2 0", false},
		{"2, 3 0, 5 0 0 0, 10 0 0 2 0 2 2 1", true},
		{"2, 3 0, 5 0 0 0, 7 0 0 0 0 0 0 0", true},
		{"2, 3 0, 5 0 0 0, -7 0 0 0 0 0 0 0", false},
		{"2, 3 0, 5 0 0 0, 0 0 0 0 0 0 0 0", false},
		{"2, 3 0, 6 0 0 0, 7 0 0 0 0 0 0 0", false},
	} {
		tw := towerOf(row.tower)
		if got := root.Reduced(tw); got != row.reduced {
			t.Errorf("P8.1: Reduced([%s]): %v", row.tower, got)
		}
		if !row.reduced {
			checkNotReduced(t, tw)
		}
	}
	if !root.Reduced(nil) || !root.Reduced([][]api.Rat{}) {
		t.Error("P8.1: Reduced for towers without radicands")
	}
}

// P8.1: a reduced tower is not reduced any more with another radicand that is a square, 0 or negative, whatever
// radicands are behind it.
func TestReduced(t *testing.T) {
	scenes(200, 4, func(s *source, x scene) {
		if !root.Reduced(x.tower) {
			t.Fatalf("P8.1: Reduced(%s): false", x.show())
		}
		if tower.Zero(x.b) {
			return
		}
		r := s.nonsquare(x.tower, 4)
		if !root.Reduced(extended(x.tower, r)) {
			t.Fatalf("P8.1: Reduced(%s), with the further radicand %s: false", x.show(), show(r))
		}
		others := [][]api.Rat{nought(len(x.b)), square(x.tower, x.b), tower.Neg(x.tower, r), tower.Neg(x.tower, square(x.tower, x.b))}
		for i, q := range x.tower {
			others = append(others, tower.Mul(x.tower, raised(x.tower, q), square(x.tower, x.b)))
			if i > 0 {
				others = append(others, raised(x.tower, x.tower[i-1]))
			}
		}
		for _, other := range others {
			tw := extended(x.tower, other)
			checkNotReduced(t, tw)
			checkNotReduced(t, extended(tw, raised(tw, of("101"))))
		}
	})
}

// P8.1: the height is not limited, and one radicand at any place can spoil a tower.
func TestReducedGreatHeights(t *testing.T) {
	for height := 5; height <= api.MaxHeight+1; height++ {
		for _, tw := range [][][]api.Rat{primes(height), chain(height)} {
			if !root.Reduced(tw) {
				t.Errorf("P8.1: Reduced(%.100s), height %d: false", sample.Tower(tw), height)
			}
			for i := range tw {
				for _, n := range []int64{-3, 0, 1, 50} {
					changed := cloneTower(tw)
					changed[i] = tower.FromRat(tw[:i], rational.FromInt(n))
					if i > 0 || n != 50 {
						checkNotReduced(t, changed)
					}
				}
			}
		}
	}
}

// P8.1: there are no square roots for towers and elements that are not formed.
func TestFormed(t *testing.T) {
	scenes(40, 4, func(s *source, x scene) {
		for _, a := range sample.OtherLists(x.a) {
			checkInvalid(t, x.tower, a)
		}
		for _, tw := range sample.OtherTowers(x.tower) {
			if root.Reduced(tw) {
				t.Fatalf("P8.1: Reduced(%v): true", tw)
			}
			checkInvalid(t, tw, x.a)
			checkInvalid(t, tw, nil)
		}
	})
	for _, row := range []struct{ tower, element string }{{"", ""}, {"", "4 0"}, {"2", "4"}, {"2", "4 0 0"}, {"2", "4 0 0 0"}, {"2 0", "4 0"}, {"2, 3", "4 0 0 0"}, {"2, 3 0", "4 0"}} {
		checkInvalid(t, towerOf(row.tower), of(row.element))
	}
}
