package tower_test

import (
	"math"
	"testing"

	"setsquare/api"
	"setsquare/rational"
	"setsquare/sample"
	"setsquare/tower"
)

// expect checks that a result consists of the normal forms of some numbers.
func expect(t *testing.T, what string, x scene, got, want []api.Rat) {
	t.Helper()
	if !same(got, want) {
		t.Fatalf("%s: %.600s: got %.300s, want %.300s", what, x.show(), show(got), show(want))
	}
}

// P6.1: the examples of the chapter.
func TestExamples(t *testing.T) {
	two := towerOf("2")
	x := scene{two, of("1 1"), of("3 -2")}
	expect(t, "P6.1: Mul", x, tower.Mul(two, x.a, x.b), of("-1 1"))
	inverse, e := tower.Inv(two, x.a)
	expect(t, "P6.1: Inv", x, inverse, of("-1 1"))
	if e != api.OK {
		t.Errorf("P6.1: Inv: %v", e)
	}

	nested := towerOf("2, 1 1")
	x = scene{nested, of("1 2 3 4"), nil}
	expect(t, "P6.1: Root", x, tower.Root(nested, 1), of("0 0 1 0"))
	if got, ok := tower.Conjugate(nested, x.a, 0); ok || len(got) != 0 {
		t.Errorf("P6.1: Conjugate with i = 0: %v", got)
	}
	got, ok := tower.Conjugate(nested, x.a, 1)
	expect(t, "P6.1: Conjugate", x, got, of("1 2 -3 -4"))
	if !ok {
		t.Error("P6.1: Conjugate with i = 1: false")
	}

	four := towerOf("4")
	if got, e := tower.Inv(four, of("2 -1")); e != api.ErrZero || len(got) != 0 || tower.Zero(of("2 -1")) {
		t.Errorf("P6.1: Inv of 2 - s in the tower of 4: %v, %v", got, e)
	}
}

// P6.1: sums, differences, opposite elements and products.
func TestArithmetic(t *testing.T) {
	scenes(4000, 5, func(s *source, x scene) {
		expect(t, "P6.1: Add", x, tower.Add(x.tower, x.a, x.b), sum(x.a, x.b))
		expect(t, "P6.1: Sub", x, tower.Sub(x.tower, x.a, x.b), sum(x.a, opposite(x.b)))
		expect(t, "P6.1: Neg", x, tower.Neg(x.tower, x.a), opposite(x.a))
		expect(t, "P6.1: Mul", x, tower.Mul(x.tower, x.a, x.b), product(x.tower, x.a, x.b))
	})
}

// P6.1: products of long lists with few zeros.
func TestLongLists(t *testing.T) {
	s := source{62}
	for _, kind := range []int{0, 1, 4} {
		var tw [][]api.Rat
		for len(tw) < 7 {
			tw = append(tw, s.Radicand(tw, kind))
		}
		x := scene{tw, s.Radicand(tw, 4), s.Radicand(tw, 4)}
		want := product(tw, x.a, x.b)
		expect(t, "P6.1: Mul", x, tower.Mul(tw, x.a, x.b), want)
		expect(t, "P6.1: Norm", x, tower.Norm(tw, x.a), norm(tw, x.a))
	}
}

// P6.1: norms are elements of the tower below; there are none for the height 0.
func TestNorm(t *testing.T) {
	scenes(3000, 5, func(s *source, x scene) {
		if len(x.tower) > 0 {
			expect(t, "P6.1: Norm", x, tower.Norm(x.tower, x.a), norm(x.tower, x.a))
		} else if got := tower.Norm(x.tower, x.a); len(got) != 0 {
			t.Fatalf("P6.1: Norm of the height 0: %v", got)
		}
	})
}

// P6.1: the elements of a tower that are rational numbers.
func TestFromRat(t *testing.T) {
	scenes(600, 6, func(s *source, x scene) {
		n := s.Number()
		want := nought(len(x.a))
		want[0] = n
		got := tower.FromRat(x.tower, n)
		expect(t, "P6.1: FromRat", x, got, want)
		if back, ok := tower.Rational(got); !ok || !sample.SameRat(back, n) {
			t.Fatalf("P6.1: Rational(%s): %v, %v", show(got), back, ok)
		}
	})
}

// P6.1: square roots; there are only those of the radicands of the tower.
func TestRoot(t *testing.T) {
	scenes(600, 6, func(s *source, x scene) {
		for i := range x.tower {
			want := nought(len(x.a))
			want[1<<i] = rational.FromInt(1)
			expect(t, "P6.1: Root", x, tower.Root(x.tower, i), want)
		}
		for _, i := range outside(x.tower) {
			if got := tower.Root(x.tower, i); len(got) != 0 {
				t.Fatalf("P6.1: Root(%d) of the height %d: %v", i, len(x.tower), got)
			}
		}
	})
}

// outside returns numbers that are not those of radicands of a tower.
func outside(t [][]api.Rat) []int {
	return []int{-1, -2, -64, math.MinInt, len(t), len(t) + 1, len(t) + 2, 63, 64, 65, 1 << 40, math.MaxInt}
}

// P6.1: Zero and Rational are defined for lists of any length.
func TestRational(t *testing.T) {
	for _, row := range []struct {
		list     string
		zero     bool
		rational string
	}{
		{"", true, ""},
		{"0", true, "0"},
		{"0 0", true, "0"},
		{"0 0 0", true, "0"},
		{"5", false, "5"},
		{"-5/3 0", false, "-5/3"},
		{"123456789012345678901234567891/1024 0 0 0 0", false, "123456789012345678901234567891/1024"},
		{"0 1", false, ""},
		{"0 0 0 -1/9", false, ""},
		{"1 0 2 0", false, ""},
		{"1 2 0", false, ""},
		{"3 0 0 0 0 0 0 4294967296", false, ""},
	} {
		a := of(row.list)
		if got := tower.Zero(a); got != row.zero {
			t.Errorf("P6.1: Zero(%s): %v", row.list, got)
		}
		var want api.Rat
		if row.rational != "" {
			want = of(row.rational)[0]
		}
		if got, ok := tower.Rational(a); !sample.SameRat(got, want) || ok != (row.rational != "") {
			t.Errorf("P6.1: Rational(%s): %v, %v", row.list, got, ok)
		}
	}
	if got, ok := tower.Rational(nil); !tower.Zero(nil) || ok || !sample.SameRat(got, api.Rat{}) {
		t.Errorf("P6.1: the list without numbers: %v, %v", got, ok)
	}
}

// P6.1: Conjugate replaces the coefficients of a root, if no radicand behind changes by it.
func TestConjugate(t *testing.T) {
	cases := map[bool]int{}
	scenes(4000, 5, func(s *source, x scene) {
		for i := range x.tower {
			want, ok := clone(x.a), true
			for p := range want {
				if p&(1<<i) != 0 {
					want[p] = rational.Neg(want[p])
				}
			}
			for j, r := range x.tower {
				for p := range r {
					if j > i && p&(1<<i) != 0 && rational.Sign(r[p]) != 0 {
						want, ok = nil, false
					}
				}
			}
			got, done := tower.Conjugate(x.tower, x.a, i)
			expect(t, "P6.1: Conjugate", x, got, want)
			if done != ok {
				t.Fatalf("P6.1: Conjugate(%d): %.600s: %v", i, x.show(), done)
			}
			cases[ok]++
		}
		for _, i := range outside(x.tower) {
			if got, ok := tower.Conjugate(x.tower, x.a, i); ok || len(got) != 0 {
				t.Fatalf("P6.1: Conjugate(%d) of the height %d: %v", i, len(x.tower), got)
			}
		}
	})
	if cases[true] < 1000 || cases[false] < 1000 {
		t.Errorf("the scenes have too few cases: %v", cases)
	}
}

// P6.1: a radicand behind that changes is one of any number, by any of its coefficients, even if the element itself
// does not change.
func TestConjugateBehind(t *testing.T) {
	for _, row := range []struct {
		tower string
		i     int
		ok    bool
	}{
		{"2, 3 0, 5 0 0 0", 0, true},
		{"2, 3 0, 5 0 0 0", 1, true},
		{"2, 3 0, 5 0 0 1", 0, false},
		{"2, 3 0, 5 0 0 1", 1, false},
		{"2, 3 0, 5 0 0 1", 2, true},
		{"2, 3 0, 5 1/7 0 0", 0, false},
		{"2, 3 0, 5 1/7 0 0", 1, true},
		{"2, 3 0, 5 0 -1 0", 0, true},
		{"2, 3 0, 5 0 -1 0", 1, false},
		{"2, 3 1, 5 0 0 0", 0, false},
		{"2, 3 1, 5 0 0 0", 1, true},
		{"-1, 0 0, 0 0 0 0", 0, true},
	} {
		tw := towerOf(row.tower)
		for _, a := range [][]api.Rat{of("0 0 0 0 0 0 0 0"), of("7 0 0 0 0 0 0 0"), of("1 2 3 4 5 6 7 8")} {
			if got, ok := tower.Conjugate(tw, a, row.i); ok != row.ok || ok != (len(got) == 8) {
				t.Errorf("P6.1: Conjugate(%s, %s, %d): %v, %v", row.tower, show(a), row.i, show(got), ok)
			}
		}
	}
}

// P6.1: the height is not limited.
func TestGreatHeight(t *testing.T) {
	s := source{63}
	var tw [][]api.Rat
	for len(tw) < api.MaxHeight+3 {
		r := nought(1 << len(tw))
		r[0] = rational.FromInt(int64(2 + s.Below(90)))
		r[s.Below(len(r))] = s.Number()
		tw = append(tw, r)
	}
	a, b := nought(1<<len(tw)), nought(1<<len(tw))
	for range 6 {
		a[s.Below(len(a))], b[s.Below(len(b))] = s.Number(), s.Number()
	}
	x := scene{tw, a, b}
	if !tower.Formed(tw, a) || tower.Formed(tw, a[:len(a)/2]) {
		t.Error("P6.1: Formed with a great height")
	}
	expect(t, "P6.1: Mul", x, tower.Mul(tw, a, b), product(tw, a, b))
	expect(t, "P6.1: Norm", x, tower.Norm(tw, a), norm(tw, a))
	c := tower.Add(tw, tower.Root(tw, 0), tower.Root(tw, len(tw)-1))
	inverse, e := tower.Inv(tw, c)
	expect(t, "P6.1: Inv", x, tower.Mul(tw, c, inverse), tower.FromRat(tw, rational.FromInt(1)))
	if e != api.OK {
		t.Errorf("P6.1: Inv with a great height: %v", e)
	}
}
