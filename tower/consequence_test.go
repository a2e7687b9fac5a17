package tower_test

import (
	"slices"
	"testing"

	"setsquare/api"
	"setsquare/rational"
	"setsquare/tower"
)

// P6.2: the elements of a tower are a commutative ring.
func TestRing(t *testing.T) {
	scenes(2000, 5, func(s *source, x scene) {
		tw, a, b, c := x.tower, x.a, x.b, s.Element(len(x.a))
		zero := tower.FromRat(tw, rational.FromInt(0))
		ab, bc := tower.Mul(tw, a, b), tower.Mul(tw, b, c)
		expect(t, "P6.2: a + b = b + a", x, tower.Add(tw, a, b), tower.Add(tw, b, a))
		expect(t, "P6.2: (a + b) + c = a + (b + c)", x, tower.Add(tw, tower.Add(tw, a, b), c), tower.Add(tw, a, tower.Add(tw, b, c)))
		expect(t, "P6.2: a + 0 = a", x, tower.Add(tw, a, zero), a)
		expect(t, "P6.2: a + (-a) = 0", x, tower.Add(tw, a, tower.Neg(tw, a)), zero)
		expect(t, "P6.2: a - b = a + (-b)", x, tower.Sub(tw, a, b), tower.Add(tw, a, tower.Neg(tw, b)))
		expect(t, "P6.2: a b = b a", x, ab, tower.Mul(tw, b, a))
		expect(t, "P6.2: (a b) c = a (b c)", x, tower.Mul(tw, ab, c), tower.Mul(tw, a, bc))
		expect(t, "P6.2: a 1 = a", x, tower.Mul(tw, a, one(tw)), a)
		expect(t, "P6.2: a 0 = 0", x, tower.Mul(tw, a, zero), zero)
		expect(t, "P6.2: (a + c) b = a b + c b", x, tower.Mul(tw, tower.Add(tw, a, c), b), tower.Add(tw, ab, bc))
	})
}

// P6.2: the square of each root is the radicand.
func TestSquares(t *testing.T) {
	scenes(600, 7, func(s *source, x scene) {
		for i, r := range x.tower {
			root := tower.Root(x.tower, i)
			want := append(slices.Clone(r), nought(len(x.a)-len(r))...)
			expect(t, "P6.2: the square of a root", x, tower.Mul(x.tower, root, root), want)
		}
	})
}

// P6.2: conjugation respects sums and products.
func TestConjugation(t *testing.T) {
	cases := 0
	scenes(2000, 5, func(s *source, x scene) {
		for i := range x.tower {
			conjugate := func(a []api.Rat) []api.Rat {
				result, _ := tower.Conjugate(x.tower, a, i)
				return result
			}
			a, ok := tower.Conjugate(x.tower, x.a, i)
			if !ok {
				continue
			}
			cases++
			b := conjugate(x.b)
			expect(t, "P6.2: the conjugate of a sum", x, conjugate(tower.Add(x.tower, x.a, x.b)), tower.Add(x.tower, a, b))
			expect(t, "P6.2: the conjugate of a product", x, conjugate(tower.Mul(x.tower, x.a, x.b)), tower.Mul(x.tower, a, b))
			expect(t, "P6.2: the conjugate of a conjugate", x, conjugate(a), x.a)
		}
	})
	if cases < 1000 {
		t.Errorf("the scenes have too few cases: %d", cases)
	}
}

// P6.2: the norm of a product is the product of the norms; it is the product of an element and its conjugate.
func TestNorms(t *testing.T) {
	scenes(2000, 5, func(s *source, x scene) {
		height := len(x.tower) - 1
		if height < 0 {
			return
		}
		below := x.tower[:height]
		a, b := tower.Norm(x.tower, x.a), tower.Norm(x.tower, x.b)
		expect(t, "P6.2: the norm of a product", x, tower.Norm(x.tower, tower.Mul(x.tower, x.a, x.b)), tower.Mul(below, a, b))
		conjugate, _ := tower.Conjugate(x.tower, x.a, height)
		expect(t, "P6.2: the product with the conjugate", x, tower.Mul(x.tower, x.a, conjugate), append(a, nought(len(a))...))
	})
}
