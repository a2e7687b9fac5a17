package tower_test

import (
	"slices"
	"testing"

	"setsquare/api"
	"setsquare/rational"
	"setsquare/sample"
	"setsquare/tower"
)

// checkNothing checks that all functions that compute with a and b have no result. One of the lists is not formed.
func checkNothing(t *testing.T, tw [][]api.Rat, a, b []api.Rat) {
	t.Helper()
	inverse, e := tower.Inv(tw, a)
	conjugate, ok := tower.Conjugate(tw, a, 0)
	if tower.Formed(tw, a) || e != api.ErrInvalid || ok {
		t.Fatalf("P6.1: tower %v, element %v: Formed %v, Inv %v, Conjugate %v", tw, a, tower.Formed(tw, a), e, ok)
	}
	lists := [][]api.Rat{inverse, conjugate, tower.Neg(tw, a), tower.Norm(tw, a)}
	for _, f := range []func([][]api.Rat, []api.Rat, []api.Rat) []api.Rat{tower.Add, tower.Sub, tower.Mul} {
		lists = append(lists, f(tw, a, b), f(tw, b, a), f(tw, a, a))
	}
	for k, list := range lists {
		if len(list) != 0 {
			t.Fatalf("P6.1: tower %v, elements %v and %v: result %d is %v", tw, a, b, k, list)
		}
	}
}

// P6.1: lists are formed if their lengths fit, and their numbers are in normal form.
func TestFormed(t *testing.T) {
	scenes(60, 5, func(s *source, x scene) {
		if !tower.Formed(x.tower, x.a) || !tower.Formed(cloneTower(x.tower), clone(x.b)) {
			t.Fatalf("P6.1: Formed: false for %.600s", x.show())
		}
		for _, a := range sample.OtherLists(x.a) {
			checkNothing(t, x.tower, a, x.b)
		}
		for _, tw := range sample.OtherTowers(x.tower) {
			checkNothing(t, tw, x.a, x.b)
			checkNothing(t, tw, nil, nil)
			if a := tower.FromRat(tw, rational.FromInt(3)); len(a) != 0 {
				t.Fatalf("P6.1: FromRat in the tower %v: %v", tw, a)
			}
			for i := range tw {
				root := tower.Root(tw, i)
				a, ok := tower.Conjugate(tw, x.a, i)
				if len(root) != 0 || len(a) != 0 || ok {
					t.Fatalf("P6.1: Root(%d) in the tower %v: %v, and Conjugate %v, %v", i, tw, root, a, ok)
				}
			}
		}
	})
}

// P6.1: towers without radicands, and those whose lists have wrong lengths.
func TestFormedTable(t *testing.T) {
	for _, row := range []struct {
		tower, element string
		formed         bool
	}{
		{"", "5", true},
		{"", "", false},
		{"", "5 0", false},
		{"2", "1 2", true},
		{"2", "1", false},
		{"2", "1 2 3", false},
		{"2", "1 2 3 4", false},
		{"2 0", "1 2", false},
		{"2, 3 0", "1 2 3 4", true},
		{"2, 3", "1 2 3 4", false},
		{"2, 3 0 0 0", "1 2 3 4", false},
		{"2 0, 3", "1 2 3 4", false},
		{"2, 3 0, 0 0 0 0", "1 2 3 4 5 6 7 8", true},
		{"2, 3 0, 5 0", "1 2 3 4 5 6 7 8", false},
		{"2, 3 0, 5 0", "1 2 3 4", false},
		{"-2, 0 0", "0 0 0 0", true},
	} {
		if got := tower.Formed(towerOf(row.tower), of(row.element)); got != row.formed {
			t.Errorf("P6.1: Formed([%s], [%s]): %v", row.tower, row.element, got)
		}
	}
	if !tower.Formed(nil, of("1/2")) || !tower.Formed([][]api.Rat{}, of("1/2")) || tower.Formed(nil, nil) || tower.Formed([][]api.Rat{nil}, nil) {
		t.Error("P6.1: Formed for towers without radicands")
	}
}

// P6.1: FromRat has no result for numbers that are not in normal form.
func TestFromOtherNumbers(t *testing.T) {
	for _, n := range sample.Abnormal() {
		for _, tw := range [][][]api.Rat{nil, towerOf("2"), towerOf("2, 1 1")} {
			if a := tower.FromRat(tw, n); len(a) != 0 {
				t.Errorf("P6.1: FromRat(%v): %v", n, a)
			}
		}
	}
}

// Zero and Rational terminate without a panic for lists of any numbers.
func TestOtherNumbers(t *testing.T) {
	for _, x := range sample.Abnormal() {
		for _, y := range sample.Abnormal() {
			for _, a := range [][]api.Rat{{x}, {x, y}, {x, y, x}, slices.Repeat([]api.Rat{y}, 8)} {
				tower.Zero(a)
				tower.Rational(a)
			}
		}
	}
}
