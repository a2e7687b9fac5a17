package root_test

import (
	"math"
	"slices"
	"testing"

	"setsquare/api"
	"setsquare/rational"
	"setsquare/root"
	"setsquare/sample"
	"setsquare/tower"
)

// expectTower checks the results of Adjoin.
func expectTower(t *testing.T, tw [][]api.Rat, a []api.Rat, want [][]api.Rat, wantRoot []api.Rat) {
	t.Helper()
	got, w, e := root.Adjoin(tw, a)
	if e != api.OK || !slices.EqualFunc(got, want, same) || !same(w, wantRoot) {
		t.Fatalf("P8.1: Adjoin(%.300s, %.300s): got %.300s, %.300s, %v", sample.Tower(tw), show(a), sample.Tower(got), show(w), e)
	}
}

// expectError checks that Adjoin returns an error, and nothing else.
func expectError(t *testing.T, tw [][]api.Rat, a []api.Rat, want api.Errno) {
	t.Helper()
	if got, w, e := root.Adjoin(tw, a); e != want || len(got) != 0 || len(w) != 0 {
		t.Fatalf("P8.1: Adjoin(%.300s, %.300s): got %.300s, %.300s, %v, want %v", sample.Tower(tw), show(a), sample.Tower(got), show(w), e, want)
	}
}

// P8.1: a tower stays the same, or gets a further radicand.
func TestAdjoin(t *testing.T) {
	further := 0
	scenes(1000, 4, func(s *source, x scene) {
		for _, a := range [][]api.Rat{x.a, x.b, square(x.tower, x.a)} {
			if a = absolute(x.tower, a); !tower.Zero(a) {
				expectError(t, x.tower, tower.Neg(x.tower, a), api.ErrNegative)
			}
			if w := definition(x.tower, a); w != nil {
				expectTower(t, x.tower, a, x.tower, absolute(x.tower, w))
				continue
			}
			next := extended(x.tower, a)
			expectTower(t, x.tower, a, next, append(nought(len(a)), raised(x.tower, of("1"))...))
			further++
		}
	})
	if further < 500 {
		t.Errorf("the scenes have too few cases: %d", further)
	}
}

// P8.1: the errors, in their order.
func TestAdjoinErrors(t *testing.T) {
	full := primes(api.MaxHeight)
	last := len(full) - 1
	change := func(r []api.Rat) [][]api.Rat {
		changed := cloneTower(full)
		changed[last] = r
		return changed
	}
	number := func(n int64) []api.Rat { return tower.FromRat(full, rational.FromInt(n)) }
	negative := tower.Sub(full, number(2), tower.Root(full, last))
	for _, row := range []struct {
		tower   [][]api.Rat
		element []api.Rat
		want    api.Errno
	}{
		{full, number(23), api.ErrTooLarge},
		{full, tower.Root(full, last), api.ErrTooLarge},
		{full, tower.Add(full, number(5), tower.Root(full, last)), api.ErrTooLarge},
		{full, number(-23), api.ErrNegative},
		{full, number(-4), api.ErrNegative},
		{full, negative, api.ErrNegative},
		{full, number(23)[1:], api.ErrInvalid},
		{full, number(-23)[1:], api.ErrInvalid},
		{full, nil, api.ErrInvalid},
		{full[:last], number(23), api.ErrInvalid},
		{change(square(full[:last], tower.Root(full[:last], 3))), number(23), api.ErrInvalid},
		{change(square(full[:last], tower.Root(full[:last], 3))), number(-23), api.ErrInvalid},
		{change(nought(1 << last)), number(-23), api.ErrInvalid},
		{change(tower.Neg(full[:last], full[last])), number(-23), api.ErrInvalid},
		{change(nil), number(-23), api.ErrInvalid},
		{towerOf("4"), of("-1 0"), api.ErrInvalid},
		{towerOf("4"), of("0 -1"), api.ErrInvalid},
		{towerOf("2"), of("-1 0 0"), api.ErrInvalid},
		{towerOf("2"), of("1 -1"), api.ErrNegative},
		{nil, of("-1/4"), api.ErrNegative},
		{nil, nil, api.ErrInvalid},
	} {
		expectError(t, row.tower, row.element, row.want)
	}
}

// P8.1: a tower with MaxHeight radicands, or one more, stays the same for squares; others can get this high.
func TestAdjoinMaxHeight(t *testing.T) {
	for height := api.MaxHeight - 1; height <= api.MaxHeight+1; height++ {
		for _, tw := range [][][]api.Rat{primes(height), chain(height)} {
			w := tower.Add(tw, tower.Root(tw, height-1), tower.FromRat(tw, rational.FromInt(3)))
			for _, factor := range [][]api.Rat{nought(1 << height), tower.FromRat(tw, rational.FromInt(1)), tower.Root(tw, 1)} {
				product := tower.Mul(tw, w, factor)
				expectTower(t, tw, square(tw, product), tw, product)
			}
			a := tower.Add(tw, tower.Root(tw, height-1), tower.FromRat(tw, rational.FromInt(1)))
			if height < api.MaxHeight {
				expectTower(t, tw, a, extended(tw, a), append(nought(len(a)), raised(tw, of("1"))...))
			} else {
				expectError(t, tw, a, api.ErrTooLarge)
			}
		}
	}
}

// P8.1: elements as those of towers with further radicands, in any formed tower.
func TestLift(t *testing.T) {
	scenes(300, 7, func(s *source, x scene) {
		tw := x.tower
		if s.Below(2) == 0 && len(tw) > 0 {
			// The tower need not be reduced.
			tw = cloneTower(tw)
			tw[len(tw)-1] = s.Radicand(tw[:len(tw)-1], 3)
		}
		for more := range api.MaxHeight - len(tw) + 1 {
			want := append(clone(x.a), nought(len(x.a)<<more-len(x.a))...)
			if got := root.Lift(tw, x.a, more); !same(got, want) {
				t.Fatalf("P8.1: Lift(%d): %s: got %.600s", more, x.show(), show(got))
			}
		}
		for _, more := range []int{-1, -2, -64, math.MinInt, api.MaxHeight - len(tw) + 1, api.MaxHeight, 63, 64, 1 << 40, math.MaxInt} {
			if got := root.Lift(tw, x.a, more); len(got) != 0 && more+len(tw) > api.MaxHeight {
				t.Fatalf("P8.1: Lift(%d): %s: got %.600s", more, x.show(), show(got))
			}
		}
	})
	for _, height := range []int{api.MaxHeight, api.MaxHeight + 1} {
		tw := primes(height)
		for more := -2; more <= 2; more++ {
			a := tower.Root(tw, height-1)
			got := root.Lift(tw, a, more)
			if height == api.MaxHeight && more == 0 && !same(got, a) || (height > api.MaxHeight || more != 0) && len(got) != 0 {
				t.Errorf("P8.1: Lift(%d) for the height %d: got %.300s", more, height, show(got))
			}
		}
	}
}

// P8.1: Lift has no result for towers and elements that are not formed.
func TestLiftFormed(t *testing.T) {
	check := func(tw [][]api.Rat, a []api.Rat) {
		for _, more := range []int{-1, 0, 1, 2} {
			if got := root.Lift(tw, a, more); len(got) != 0 {
				t.Fatalf("P8.1: Lift(%v, %v, %d): %v", tw, a, more, got)
			}
		}
	}
	scenes(30, 4, func(s *source, x scene) {
		for _, a := range sample.OtherLists(x.a) {
			check(x.tower, a)
		}
		for _, tw := range sample.OtherTowers(x.tower) {
			check(tw, x.a)
			check(tw, nil)
		}
	})
}
