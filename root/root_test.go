package root_test

import (
	"testing"

	"setsquare/api"
	"setsquare/rational"
	"setsquare/root"
	"setsquare/sample"
	"setsquare/sign"
	"setsquare/tower"
)

// expectRoot checks that Square finds a square root, and no other element.
func expectRoot(t *testing.T, tw [][]api.Rat, a, want []api.Rat) {
	t.Helper()
	got, ok := root.Square(tw, a)
	if !ok || !same(got, want) {
		t.Fatalf("P8.1: Square(%.400s, %.400s): got %.300s, %v, want %.300s", sample.Tower(tw), show(a), show(got), ok, show(want))
	}
}

// expectNone checks that Square finds no square root.
func expectNone(t *testing.T, tw [][]api.Rat, a []api.Rat) {
	t.Helper()
	if got, ok := root.Square(tw, a); ok || len(got) != 0 {
		t.Fatalf("P8.1: Square(%.400s, %.400s): got %.300s, %v", sample.Tower(tw), show(a), show(got), ok)
	}
}

// P8.1: the examples of the chapter.
func TestExamples(t *testing.T) {
	two, six, both := towerOf("2"), towerOf("6"), towerOf("2, 3 0")
	expectRoot(t, two, of("3 2"), of("1 1"))
	expectRoot(t, two, of("8 0"), of("0 2"))
	expectNone(t, two, of("3 0"))
	expectNone(t, six, of("5 2"))
	expectRoot(t, both, of("5 0 0 2"), of("0 1 1 0"))
	expectRoot(t, both, of("6 0 0 0"), of("0 0 0 1"))
	if root.Reduced(towerOf("4")) {
		t.Error("P8.1: the tower with the radicand 4 is reduced")
	}
}

// P8.1: square roots in towers of small heights; none is written as -.
func TestSquareTable(t *testing.T) {
	for _, row := range []struct{ tower, element, root string }{
		{"", "0", "0"},
		{"", "1", "1"},
		{"", "9/4", "3/2"},
		{"", "2", "-"},
		{"", "-4", "-"},
		{"", "15241578753238836750495351562536198787501905199875019052100", "123456789012345678901234567890"},
		{"", "15241578753238836750495351562536198787501905199875019052101", "-"},
		{"2", "0 0", "0 0"},
		{"2", "1 0", "1 0"},
		{"2", "2 0", "0 1"},
		{"2", "1/2 0", "0 1/2"},
		{"2", "8 0", "0 2"},
		{"2", "9/4 0", "3/2 0"},
		{"2", "3 0", "-"},
		{"2", "6 0", "-"},
		{"2", "-4 0", "-"},
		{"2", "-2 0", "-"},
		{"2", "0 1", "-"},
		{"2", "0 4", "-"},
		{"2", "0 -2", "-"},
		{"1/2", "2 0", "0 2"},
		{"6", "3/2 0", "0 1/2"},
		{"6", "2 0", "-"},
		// x x + 2 y y and 2 x y for x = 1, y = 1; (u - n) / 2 is x x.
		{"2", "3 2", "1 1"},
		{"2", "3 -2", "-1 1"},
		{"2", "-3 2", "-"},
		{"2", "-3 -2", "-"},
		// x = 3, y = 1; (u + n) / 2 is x x.
		{"2", "11 6", "3 1"},
		{"2", "11 -6", "3 -1"},
		{"2", "17/16 3/4", "3/4 1/2"},
		// The norm is 1 or a square, but neither (u + n) / 2 nor (u - n) / 2.
		{"2", "9 6", "-"},
		{"2", "15 10", "-"},
		{"3", "2 1", "-"},
		{"3", "4 2", "1 1"},
		// The norm is no square.
		{"2", "1 1", "-"},
		{"2", "5 1", "-"},
		{"6", "5 2", "-"},
		{"5", "3/2 1/2", "1/2 1/2"},
		{"5", "6 2", "1 1"},
		{"2, 3 0", "5 0 0 2", "0 1 1 0"},
		{"2, 3 0", "5 0 0 -2", "0 -1 1 0"},
		{"2, 3 0", "-5 0 0 2", "-"},
		{"2, 3 0", "6 0 0 0", "0 0 0 1"},
		{"2, 3 0", "24 0 0 0", "0 0 0 2"},
		{"2, 3 0", "12 0 0 0", "0 0 2 0"},
		{"2, 3 0", "1/3 0 0 0", "0 0 1/3 0"},
		{"2, 3 0", "2 0 0 0", "0 1 0 0"},
		{"2, 3 0", "5 0 0 0", "-"},
		{"2, 3 0", "-6 0 0 0", "-"},
		{"2, 3 0", "9 6 0 0", "0 0 1 1"},
		{"2, 3 0", "3 2 0 0", "1 1 0 0"},
		{"2, 3 0", "4 0 2 0", "1 0 1 0"},
		{"2, 3 0", "8 0 4 0", "0 1 0 1"},
		{"2, 3 0", "2 0 1 0", "0 1/2 0 1/2"},
		{"2, 3 0", "6 2 2 2", "1 1 1 0"},
		{"2, 3 0", "6 2 -2 -2", "1 1 -1 0"},
		{"2, 3 0", "12 4 4 4", "2 1 0 1"},
		{"2, 3 0", "30 10 10 10", "-"},
		{"2, 3 0", "12 8 4 0", "-"},
		{"2, 3 0", "5 2 0 0", "-"},
		{"2, 3 0", "6 2 2 3", "-"},
		{"2, 1 1", "1 1 0 0", "0 0 1 0"},
		{"2, 1 1", "7 5 0 0", "0 0 1 1"},
		{"2, 1 1", "3 2 0 0", "1 1 0 0"},
		{"2, 1 1", "2 1 2 0", "1 0 1 0"},
		{"2, 1 1", "2 1 -2 0", "-1 0 1 0"},
		{"2, 1 1", "-1 1 0 0", "0 0 -1 1"},
		{"2, 1 1", "1 0 1 0", "-"},
		{"2, 1 1", "0 0 1 0", "-"},
		{"2, 1 1", "3 0 0 0", "-"},
		{"2, 1 1", "0 1 0 0", "-"},
		{"2, 3 0, 5 0 0 0", "30 0 0 0 0 0 0 0", "0 0 0 0 0 0 0 1"},
		{"2, 3 0, 5 0 0 0", "10 2 2 0 2 0 0 0", "-"},
		{"2, 3 0, 5 0 0 0", "10 0 0 2 0 2 2 0", "0 1 1 0 1 0 0 0"},
		{"2, 3 0, 5 0 0 0", "10 0 0 2 0 -2 -2 0", "0 1 1 0 -1 0 0 0"},
		{"2, 3 0, 5 0 0 0", "7 0 0 0 0 0 0 0", "-"},
		{"2, 3 0, 5 0 0 0", "6 0 0 0 2 0 0 0", "1 0 0 0 1 0 0 0"},
		{"2, 3 0, 1 1 1 0", "1 1 1 0 0 0 0 0", "0 0 0 0 1 0 0 0"},
		{"2, 3 0, 1 1 1 0", "5 5 3 2 0 0 0 0", "-"},
		{"2, 3 0, 1 1 1 0", "2 2 2 0 0 0 0 0", "0 0 0 0 0 1 0 0"},
		{"2, 3 0, 1 1 1 0", "2 1 1 0 2 0 0 0", "1 0 0 0 1 0 0 0"},
	} {
		if row.root == "-" {
			expectNone(t, towerOf(row.tower), of(row.element))
		} else {
			expectRoot(t, towerOf(row.tower), of(row.element), of(row.root))
		}
	}
}

// P8.1: an element is a square exactly if the rule of the chapter finds a square root.
func TestSquare(t *testing.T) {
	cases := map[bool]int{}
	scenes(2500, 4, func(s *source, x scene) {
		for _, a := range [][]api.Rat{x.a, square(x.tower, x.a), tower.Mul(x.tower, x.a, x.b), tower.Neg(x.tower, square(x.tower, x.b))} {
			want := definition(x.tower, a)
			cases[want != nil]++
			if want == nil {
				expectNone(t, x.tower, a)
			} else {
				expectRoot(t, x.tower, a, absolute(x.tower, want))
			}
		}
	})
	if cases[true] < 2000 || cases[false] < 2000 {
		t.Errorf("the scenes have too few cases: %v", cases)
	}
}

// P8.1: squares of elements of any height have these elements, or their opposites, as square roots.
func TestSquares(t *testing.T) {
	scenes(800, 5, func(s *source, x scene) {
		for _, w := range [][]api.Rat{x.a, x.b, tower.Add(x.tower, x.a, x.b)} {
			expectRoot(t, x.tower, square(x.tower, w), absolute(x.tower, w))
		}
	})
}

// P8.1: rational numbers that are squares only thanks to radicands: their products with some radicands are squares.
func TestRationalSquares(t *testing.T) {
	values := []int64{2, 3, 5, 7, 11, 13, 17, 19}
	for height := range 7 {
		tw := primes(height)
		for n := int64(1); n < 130; n++ {
			want := nought(1 << height)
			for p := range want {
				product := int64(1)
				for i := range height {
					if p>>i&1 == 1 {
						product *= values[i]
					}
				}
				if w, ok := rational.Sqrt(rational.Frac(n, product)); ok {
					want[p] = w
				}
			}
			a := tower.FromRat(tw, rational.FromInt(n))
			if tower.Zero(want) {
				expectNone(t, tw, a)
			} else {
				expectRoot(t, tw, a, want)
			}
			expectNone(t, tw, tower.Neg(tw, a))
		}
	}
}

// P8.1: products with radicands, whose square roots are in the tower, at any place.
func TestThanksToRadicands(t *testing.T) {
	scenes(500, 4, func(s *source, x scene) {
		if tower.Zero(x.b) {
			return
		}
		for i, r := range x.tower {
			a := tower.Mul(x.tower, raised(x.tower, r), square(x.tower, x.b))
			want := tower.Mul(x.tower, tower.Root(x.tower, i), x.b)
			expectRoot(t, x.tower, a, absolute(x.tower, want))
			expectNone(t, x.tower, tower.Neg(x.tower, a))
			expectNone(t, x.tower[:i], r)
		}
	})
}

// P8.1: both ways in which (u + n) / 2 and (u - n) / 2 can have one square, at all heights, and none.
func TestHalves(t *testing.T) {
	signs := map[int]int{}
	scenes(1000, 4, func(s *source, x scene) {
		height := len(x.tower) - 1
		if height < 0 {
			return
		}
		below, r := x.tower[:height], x.tower[height]
		u, v := s.short(1<<height), s.short(1<<height)
		if tower.Zero(u) || tower.Zero(v) {
			return
		}
		w := append(clone(u), v...)
		expectRoot(t, x.tower, square(x.tower, w), absolute(x.tower, w))
		signs[sign.Sign(below, tower.Sub(below, square(below, u), tower.Mul(below, r, square(below, v))))]++
		// The norm is a square, because the factor is an element of the tower below.
		factor := s.nonsquare(below, 4)
		a := tower.Mul(x.tower, square(x.tower, w), raised(x.tower, factor))
		if definition(below, quotient(below, factor, r)) == nil {
			expectNone(t, x.tower, a)
			signs[0]++
		}
	})
	for k := -1; k <= 1; k++ {
		if signs[k] < 100 {
			t.Errorf("the scenes have too few cases: %v", signs)
		}
	}
}

// P8.1: the towers of great heights, also with more than MaxHeight radicands.
func TestGreatHeights(t *testing.T) {
	s := source{82}
	for height := 6; height <= api.MaxHeight+1; height++ {
		for _, tw := range [][][]api.Rat{primes(height), chain(height)} {
			w := nought(1 << height)
			for range 8 {
				w[s.Below(len(w))] = rational.FromInt(int64(1 + s.Below(9)))
			}
			expectRoot(t, tw, square(tw, w), w)
			expectNone(t, tw, tower.Neg(tw, square(tw, w)))
			expectNone(t, tw, tower.Mul(tw, square(tw, w), tower.FromRat(tw, rational.FromInt(29))))
			for i := range tw {
				a := tower.Mul(tw, square(tw, w), raised(tw, tw[i]))
				expectRoot(t, tw, a, tower.Mul(tw, w, tower.Root(tw, i)))
			}
			last := tower.Root(tw, height-1)
			expectNone(t, tw, last)
			expectNone(t, tw, tower.Add(tw, last, tower.FromRat(tw, rational.FromInt(1))))
		}
	}
}

// P8.1: long coefficients.
func TestLongCoefficients(t *testing.T) {
	for _, row := range []struct{ tower, root string }{
		{"2", "123456789012345678901234567890/1000003 -1/98765432109876543210987654321"},
		{"99999999999999999999999999999999999999999999999999/7, 1/1000000000000000000000000000000000000000000000000001 5", "1/3 99999999999999999999999999999999999999 1/17 5"},
		{"2, 3 0, 1/1000000000000000000000000000001 0 1 0", "1 99999999999999999999/7 0 0 1/65537 0 1/65521 1/131071"},
	} {
		tw := towerOf(row.tower)
		w := of(row.root)
		a := square(tw, w)
		expectRoot(t, tw, a, absolute(tw, w))
		a[0] = rational.Add(a[0], rational.Frac(1, 1<<62))
		expectNone(t, tw, a)
	}
}

// P8.1: radicands and denominators with the squares of many prime numbers of 16 binary digits as divisors.
func TestManyDivisors(t *testing.T) {
	factor := rational.FromInt(1)
	for n := int64(1<<16 - 1); n > 63000; n -= 4 {
		factor = rational.Mul(factor, rational.FromInt(n))
	}
	inverse, _ := rational.Div(rational.FromInt(1), factor)
	for _, f := range []api.Rat{factor, inverse} {
		tw := towerOf("2, 3 0, 5 0 0 0, 7 0 0 0 0 0 0 0")
		for i := range tw {
			tw[i][0] = rational.Mul(tw[i][0], rational.Mul(f, f))
		}
		for n, p := range map[int64]int{2: 1, 3: 2, 6: 3, 5: 4, 10: 5, 30: 7, 7: 8, 70: 13} {
			want := nought(16)
			want[p] = rational.FromInt(1)
			for i := range tw {
				if p>>i&1 == 1 {
					want[p], _ = rational.Div(want[p], f)
				}
			}
			expectRoot(t, tw, tower.FromRat(tw, rational.FromInt(n)), want)
			expectNone(t, tw, tower.FromRat(tw, rational.FromInt(11*n)))
			sum := tower.Add(tw, want, tower.FromRat(tw, f))
			expectRoot(t, tw, square(tw, sum), sum)
		}
	}
	// Some coefficients have such denominators, and others have none.
	tw := primes(4)
	for p := range 16 {
		w := tower.FromRat(tw, inverse)
		for i := range 3 {
			w[(p+i*i)%16] = rational.Add(w[(p+i*i)%16], rational.FromInt(1))
		}
		expectRoot(t, tw, square(tw, w), w)
	}
}
