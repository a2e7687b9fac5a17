package sign_test

import (
	"testing"

	"setsquare/api"
	"setsquare/sign"
	"setsquare/tower"
)

// P7.2: the sign of a product is the product of the signs; the sum of two positive elements is positive.
func TestOrderedField(t *testing.T) {
	scenes(2500, 4, func(s *source, x scene) {
		a, b := sign.Sign(x.tower, x.a), sign.Sign(x.tower, x.b)
		if got := sign.Sign(x.tower, tower.Mul(x.tower, x.a, x.b)); got != a*b {
			t.Fatalf("P7.2: the sign of the product: %s: got %d, want %d", x.show(), got, a*b)
		}
		if got := sign.Sign(x.tower, tower.Add(x.tower, x.a, x.b)); a == b && got != a {
			t.Fatalf("P7.2: the sign of the sum: %s: got %d, want %d", x.show(), got, a)
		}
		if got := sign.Sign(x.tower, tower.Neg(x.tower, x.a)); got != -a {
			t.Fatalf("P7.2: the sign of the opposite: %s: got %d, want %d", x.show(), got, -a)
		}
	})
}

// P7.2: each square root is positive, and greater than another one exactly if its radicand is greater.
func TestSquareRoots(t *testing.T) {
	scenes(1500, 5, func(s *source, x scene) {
		for i, r := range x.tower {
			root := tower.Root(x.tower, i)
			if sign.Sign(x.tower, root) != 1 {
				t.Fatalf("P7.2: the square root %d: %s: not positive", i, x.show())
			}
			for j, q := range x.tower[:i] {
				want := sign.Cmp(x.tower, raised(x.tower, r), raised(x.tower, q))
				if got := sign.Cmp(x.tower, root, tower.Root(x.tower, j)); got != want {
					t.Fatalf("P7.2: the square roots %d and %d: %s: got %d, want %d", i, j, x.show(), got, want)
				}
			}
		}
	})
}

// P7.2: an element has the sign 0 exactly if its value is 0, and then also each product with it.
func TestZero(t *testing.T) {
	cases := map[bool]int{}
	scenes(2500, 5, func(s *source, x scene) {
		for _, a := range [][]api.Rat{x.a, tower.Sub(x.tower, tower.Mul(x.tower, x.a, x.b), tower.Mul(x.tower, x.b, x.a))} {
			zero := x.roots.sign(a) == 0
			if got := sign.Sign(x.tower, a); (got == 0) != zero {
				t.Fatalf("P7.2: the sign of %s: %s: %d, the value is %.40g", show(a), x.show(), got, x.roots.value(a))
			}
			cases[zero]++
		}
	})
	if cases[true] < 500 || cases[false] < 500 {
		t.Errorf("the scenes have too few cases: %v", cases)
	}
}
