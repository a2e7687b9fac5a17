package tower_test

import (
	"testing"

	"setsquare/api"
	"setsquare/rational"
	"setsquare/tower"
)

// one returns the element 1.
func one(t [][]api.Rat) []api.Rat { return tower.FromRat(t, rational.FromInt(1)) }

// P6.1: an element has an inverse exactly if each element is a product with it; their product is 1.
func TestInverse(t *testing.T) {
	kinds := map[string]int{}
	scenes(4000, 3, func(s *source, x scene) {
		// Products have no inverse if a factor has none, but can have any other form.
		for _, a := range [][]api.Rat{x.a, tower.Mul(x.tower, x.a, x.b)} {
			got, e := tower.Inv(x.tower, a)
			switch {
			case !regular(x.tower, a):
				if e != api.ErrZero || len(got) != 0 {
					t.Fatalf("P6.1: Inv(%s): %s: got %s, %v", show(a), x.show(), show(got), e)
				}
				if !tower.Zero(a) {
					kinds["not 0, without inverse"]++
				}
			case e != api.OK || !tower.Formed(x.tower, got):
				t.Fatalf("P6.1: Inv(%s): %s: got %v, %v", show(a), x.show(), got, e)
			default:
				expect(t, "P6.1: Inv", x, product(x.tower, a, got), one(x.tower))
				kinds["with inverse"]++
			}
		}
	})
	if kinds["not 0, without inverse"] < 100 || kinds["with inverse"] < 1000 {
		t.Errorf("the scenes have too few cases: %v", kinds)
	}
}

// P6.1: elements with and without inverses in towers whose radicands are 0, negative, or squares.
func TestInverseTable(t *testing.T) {
	for _, row := range []struct{ tower, element, inverse string }{
		{"", "0", ""},
		{"", "-2/3", "-3/2"},
		{"2", "0 0", ""},
		{"2", "5 0", "1/5 0"},
		{"2", "0 1", "0 1/2"},
		{"2/9", "0 3", "0 3/2"},
		{"-1", "3 4", "3/25 -4/25"},
		{"0", "0 1", ""},
		{"0", "2 1", "1/2 -1/4"},
		{"4", "2 -1", ""},
		{"4", "2 1", ""},
		{"4", "0 1", "0 1/4"},
		{"4", "3 1", "3/5 -1/5"},
		{"9/4", "3 2", ""},
		{"2, 2 0", "0 1 -1 0", ""},
		{"2, 2 0", "0 1 2 0", "0 -1/6 1/3 0"},
		{"2, 8 0", "0 2 -1 0", ""},
		{"2, 8 0", "0 0 1 2", "0 0 -1/56 1/28"},
		{"2, 3 2", "1 1 1 0", ""},
		{"2, 3 2", "0 0 1 0", "0 0 3 -2"},
		{"2, 0 0", "1 1 0 1", "-1 1 4 -3"},
		{"2, 0 0", "0 0 1 1", ""},
		{"4, 3 0", "0 0 2 1", ""},
		{"4, 2 1", "1 0 1 0", "1/3 -1/3 -1/3 1/3"},
	} {
		tw, a := towerOf(row.tower), of(row.element)
		got, e := tower.Inv(tw, a)
		if row.inverse == "" {
			if e != api.ErrZero || len(got) != 0 {
				t.Errorf("P6.1: Inv(%s) in the tower [%s]: got %s, %v", row.element, row.tower, show(got), e)
			}
		} else if want := of(row.inverse); e != api.OK || !same(got, want) {
			t.Errorf("P6.1: Inv(%s) in the tower [%s]: got %s, %v, want %s", row.element, row.tower, show(got), e, row.inverse)
		}
	}
}

// P6.1: in a tower of different prime numbers every element that is not 0 has an inverse; long lists too.
func TestInverseLong(t *testing.T) {
	s := source{64}
	for height := 4; height <= api.MaxHeight; height++ {
		var tw [][]api.Rat
		for range height {
			tw = append(tw, s.Radicand(tw, 0))
		}
		a := nought(1 << height)
		for p := range a {
			if height < 7 || p%31 == 0 {
				a[p] = rational.Frac(int64(s.Below(19)-9), int64(1+s.Below(3)))
			}
		}
		a[0] = rational.FromInt(2)
		got, e := tower.Inv(tw, a)
		expect(t, "P6.1: Inv", scene{tw, a, nil}, tower.Mul(tw, a, got), one(tw))
		if e != api.OK {
			t.Errorf("P6.1: Inv of the height %d: %v", height, e)
		}
	}
}
