package root_test

import (
	"slices"
	"testing"

	"setsquare/api"
	"setsquare/rational"
	"setsquare/root"
	"setsquare/sample"
	"setsquare/sign"
	"setsquare/tower"
)

// isSquare reports whether an element is a square, and checks that the square root is one, and is not negative.
func isSquare(t *testing.T, tw [][]api.Rat, a []api.Rat) bool {
	t.Helper()
	w, ok := root.Square(tw, a)
	if ok && (!same(square(tw, w), a) || sign.Sign(tw, w) < 0) {
		t.Fatalf("P8.2: Square(%.400s, %.400s): got %.400s", sample.Tower(tw), show(a), show(w))
	}
	return ok
}

// P8.2: towers that Adjoin returns are reduced, and the square of the square root is the element.
func TestAdjoined(t *testing.T) {
	scenes(600, 3, func(s *source, x scene) {
		tw, a := x.tower, x.a
		for k := range 3 {
			if k == 2 {
				// An element of the tower as it is now.
				a = s.short(1 << len(tw))
			}
			a = absolute(tw, raised(tw, a))
			next, w, e := root.Adjoin(tw, a)
			if e != api.OK || !root.Reduced(next) || !slices.EqualFunc(next[:len(tw)], tw, same) {
				t.Fatalf("P8.2: Adjoin(%s, %s): %s, %v", sample.Tower(tw), show(a), sample.Tower(next), e)
			}
			if !same(square(next, w), raised(next, a)) || sign.Sign(next, w) < 0 {
				t.Fatalf("P8.2: Adjoin(%s, %s): the square root %s", sample.Tower(tw), show(a), show(w))
			}
			tw = next
		}
		if len(tw) < len(x.tower)+1 && !isSquare(t, x.tower, absolute(x.tower, x.a)) {
			t.Fatalf("P8.2: the square root was not adjoined: %s", x.show())
		}
	})
}

// P8.2: once the square root of an element is adjoined, the element is a square, whatever is adjoined afterwards.
func TestFoundAgain(t *testing.T) {
	scenes(300, 3, func(s *source, x scene) {
		a, b := absolute(x.tower, x.a), absolute(x.tower, x.b)
		first, w, _ := root.Adjoin(x.tower, a)
		second, _, _ := root.Adjoin(first, raised(first, b))
		got, found, e := root.Adjoin(second, raised(second, a))
		if e != api.OK || !slices.EqualFunc(got, second, same) || !same(found, raised(second, w)) {
			t.Fatalf("P8.2: %s: the square root of the first one is not found again: %s, %s, %v", x.show(), sample.Tower(got), show(found), e)
		}
		// The square root of the product is the product of the square roots, in either order.
		if !isSquare(t, second, raised(second, tower.Mul(x.tower, a, b))) {
			t.Fatalf("P8.2: %s: the product is no square in %s", x.show(), sample.Tower(second))
		}
		other, _, _ := root.Adjoin(x.tower, b)
		other, _, _ = root.Adjoin(other, raised(other, a))
		if len(other) != len(second) || !isSquare(t, other, raised(other, tower.Mul(x.tower, a, b))) {
			t.Fatalf("P8.2: %s: %d radicands, and %d in the other order", x.show(), len(second), len(other))
		}
	})
}

// P8.2: squares of a and -a are the same; Square returns the one that is not negative.
func TestOpposite(t *testing.T) {
	scenes(600, 4, func(s *source, x scene) {
		opposite := tower.Neg(x.tower, x.a)
		w, ok := root.Square(x.tower, square(x.tower, x.a))
		v, found := root.Square(x.tower, square(x.tower, opposite))
		if !ok || !found || !same(v, w) || !same(w, x.a) && !same(w, opposite) || sign.Sign(x.tower, w) < 0 {
			t.Fatalf("P8.2: %s: the square roots %s and %s", x.show(), show(w), show(v))
		}
	})
}

// P8.2: products of squares are squares; a square that is not 0 times an element that is none is none; norms of squares
// are squares.
func TestProducts(t *testing.T) {
	scenes(600, 4, func(s *source, x scene) {
		first, second := square(x.tower, x.a), square(x.tower, x.b)
		if !isSquare(t, x.tower, first) || !isSquare(t, x.tower, tower.Mul(x.tower, first, second)) {
			t.Fatalf("P8.2: %s: the product of the squares is no square", x.show())
		}
		for _, c := range [][]api.Rat{s.nonsquare(x.tower, s.Below(5)), x.a, tower.Add(x.tower, x.a, x.b)} {
			if product := tower.Mul(x.tower, second, c); !tower.Zero(x.b) && isSquare(t, x.tower, product) != isSquare(t, x.tower, c) {
				t.Fatalf("P8.2: %s: the product of the second square and %s", x.show(), show(c))
			}
		}
		if height := len(x.tower); height > 0 && !isSquare(t, x.tower[:height-1], tower.Norm(x.tower, first)) {
			t.Fatalf("P8.2: %s: the norm of the square is no square", x.show())
		}
	})
}

// P8.2: Lift preserves sums, products and signs, in every tower that begins with the same radicands.
func TestLifted(t *testing.T) {
	scenes(600, 4, func(s *source, x scene) {
		next := cloneTower(x.tower)
		for range 1 + s.Below(2) {
			r := s.nonsquare(next, 4)
			if s.Below(3) == 0 {
				r = tower.FromRat(next, rational.FromInt(4))
			}
			next = append(next, r)
		}
		lift := func(a []api.Rat) []api.Rat { return root.Lift(x.tower, a, len(next)-len(x.tower)) }
		a, b := lift(x.a), lift(x.b)
		if !same(tower.Add(next, a, b), lift(tower.Add(x.tower, x.a, x.b))) || !same(tower.Mul(next, a, b), lift(tower.Mul(x.tower, x.a, x.b))) {
			t.Fatalf("P8.2: %s: a sum or a product changes in %s", x.show(), sample.Tower(next))
		}
		if sign.Sign(next, a) != sign.Sign(x.tower, x.a) || sign.Cmp(next, a, b) != sign.Cmp(x.tower, x.a, x.b) {
			t.Fatalf("P8.2: %s: a sign changes in %s", x.show(), sample.Tower(next))
		}
	})
}
