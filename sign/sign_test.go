package sign_test

import (
	"testing"

	"setsquare/api"
	"setsquare/rational"
	"setsquare/sample"
	"setsquare/sign"
	"setsquare/tower"
)

// P7.1: signs in towers of small heights, also with radicands that are squares.
func TestSignTable(t *testing.T) {
	for _, row := range []struct {
		tower, element string
		sign           int
	}{
		{"", "0", 0},
		{"", "5/3", 1},
		{"", "-1/1000000000000000000000000000000", -1},
		{"2", "0 0", 0},
		{"2", "3 -2", 1},
		{"2", "7 -5", -1},
		{"2", "-3 2", -1},
		{"2", "-7 5", 1},
		{"2", "3 2", 1},
		{"2", "-3 -2", -1},
		{"2", "0 3", 1},
		{"2", "0 -1/3", -1},
		{"2", "-5 0", -1},
		{"2", "1 0", 1},
		{"1/2", "-7 10", 1},
		{"1/2", "-5 7", -1},
		{"4", "2 -1", 0},
		{"4", "-2 1", 0},
		{"4", "2 1", 1},
		{"4", "-2 -1", -1},
		{"4", "1 -1", -1},
		{"4", "3 -1", 1},
		{"9/4", "3 -2", 0},
		{"1/9", "1/7 -3/7", 0},
		{"2, 3 0", "0 1 -1 0", -1},
		{"2, 3 0", "3 -1 -1 0", -1},
		{"2, 3 0", "-3 1 1 0", 1},
		{"2, 3 0", "0 0 -2 1", -1},
		{"2, 3 0", "0 0 2 -1", 1},
		{"2, 3 0", "5 0 0 -2", 1},
		{"2, 3 0", "-5 0 0 2", -1},
		{"2, 3 0", "-4 2 2 0", 1},
		{"2, 1 1", "3 0 -2 0", -1},
		{"2, 1 1", "-3 0 2 0", 1},
		{"2, 1 1", "1 1 -1 0", 1},
		{"2, 1 1", "0 1 -1 0", -1},
		{"2, -1 1", "0 0 -1 0", -1},
		{"2, -1 1", "2 0 -3 0", 1},
		{"2, 8 0", "0 2 -1 0", 0},
		{"2, 8 0", "1 2 -1 0", 1},
		{"2, 3 2", "1 1 -1 0", 0},
		{"2, 3 2", "-2 -2 2 0", 0},
		{"2, 3 2", "2 1 0 -1", 0},
		{"2, 3 -2", "-1 1 -1 0", 0},
		{"2, 3 -2", "1 -1 -1 0", -1},
		{"2, 3 0, 6 0 0 0", "0 0 0 1 -1 0 0 0", 0},
		{"2, 3 0, 6 0 0 0", "0 0 0 -1 1 1/1000000000000 0 0", 1},
		{"2, 3 0, 5 0 0 2", "0 1 1 0 -1 0 0 0", 0},
		{"2, 3 0, 5 0 0 2", "-1/1000000000000 1 1 0 -1 0 0 0", -1},
		{"2, 3 0, 5 0 0 -2", "0 1 -1 0 1 0 0 0", 0},
		{"2, 1 1, 0 0 1 0", "1 0 0 0 -1 0 0 0", -1},
		{"2, 1 1, 0 0 1 0", "5 0 0 0 -4 0 0 0", 1},
	} {
		if got := sign.Sign(towerOf(row.tower), of(row.element)); got != row.sign {
			t.Errorf("P7.1: Sign([%s], [%s]): got %d, want %d", row.tower, row.element, got, row.sign)
		}
	}
}

// P7.1: the sign is that of the value.
func TestSign(t *testing.T) {
	signs := map[int]int{}
	scenes(4000, 5, func(s *source, x scene) {
		for _, a := range [][]api.Rat{x.a, x.b, tower.Sub(x.tower, x.a, x.b), tower.Mul(x.tower, x.a, x.b)} {
			got, want := sign.Sign(x.tower, a), x.roots.sign(a)
			if got != want {
				t.Fatalf("P7.1: Sign(%s): %s: got %d, want %d", show(a), x.show(), got, want)
			}
			signs[got]++
		}
	})
	if signs[1] < 2000 || signs[-1] < 2000 || signs[0] < 500 {
		t.Errorf("the scenes have too few cases: %v", signs)
	}
}

// definition returns the sign of an element as the chapter defines it.
func definition(t [][]api.Rat, a []api.Rat) int {
	if len(t) == 0 {
		return rational.Sign(a[0])
	}
	half := len(a) / 2
	below, r := t[:len(t)-1], t[len(t)-1]
	x, y := definition(below, a[:half]), definition(below, a[half:])
	switch {
	case x == y || y == 0:
		return x
	case x == 0:
		return y
	}
	squareB := tower.Mul(below, a[half:], a[half:])
	return definition(below, tower.Sub(below, tower.Mul(below, a[:half], a[:half]), tower.Mul(below, squareB, r))) * x
}

// P7.1: the sign follows the recursion of the chapter.
func TestDefinition(t *testing.T) {
	scenes(2000, 4, func(s *source, x scene) {
		for _, a := range [][]api.Rat{x.a, tower.Mul(x.tower, x.a, x.b)} {
			if got, want := sign.Sign(x.tower, a), definition(x.tower, a); got != want {
				t.Fatalf("P7.1: Sign(%s): %s: got %d, want %d", show(a), x.show(), got, want)
			}
		}
	})
}

// P7.1: Cmp is the sign of the difference.
func TestCmp(t *testing.T) {
	scenes(2000, 4, func(s *source, x scene) {
		got, opposite := sign.Cmp(x.tower, x.a, x.b), sign.Cmp(x.tower, x.b, x.a)
		if want := x.roots.value(x.a).Cmp(x.roots.value(x.b)); got != want && x.roots.sign(tower.Sub(x.tower, x.a, x.b)) != got {
			t.Fatalf("P7.1: Cmp: %s: got %d, want %d", x.show(), got, want)
		}
		if opposite != -got || sign.Cmp(x.tower, x.a, x.a) != 0 {
			t.Fatalf("P7.1: Cmp: %s: %d, and %d in the other order", x.show(), got, opposite)
		}
	})
	for _, row := range []struct {
		tower, a, b string
		cmp         int
	}{
		{"", "1/2", "2/3", -1},
		{"2", "3 0", "0 2", 1},
		{"2", "7 0", "0 5", -1},
		{"2", "1 1", "1 1", 0},
		{"4", "2 0", "0 1", 0},
		{"4", "1 1", "3 0", 0},
		{"2, 3 2", "0 0 1 0", "1 1 0 0", 0},
		{"2, 3 2", "0 0 1 0", "1 2 0 0", -1},
	} {
		if got := sign.Cmp(towerOf(row.tower), of(row.a), of(row.b)); got != row.cmp {
			t.Errorf("P7.1: Cmp([%s], [%s], [%s]): got %d, want %d", row.tower, row.a, row.b, got, row.cmp)
		}
	}
}

// P7.1: a tower is real if it is formed, and each radicand is positive, whether it is a square or not.
func TestRealTable(t *testing.T) {
	for _, row := range []struct {
		tower string
		real  bool
	}{
		{"", true},
		{"2", true},
		{"4", true},
		{"1/1000000000000000000000", true},
		{"0", false},
		{"-1", false},
		{"-4", false},
		{"2, 1 1", true},
		{"2, 1 -1", false},
		{"2, -1 1", true},
		{"2, 3 -2", true},
		{"2, 7 -5", false},
		{"2, 0 0", false},
		{"2, 2 0", true},
		{"2, 0 -1", false},
		{"-1, 1 0", false},
		{"0, 1 0", false},
		{"4, 2 -1", false},
		{"4, 3 -1", true},
		{"4, 1 -1", false},
		{"2, 8 0, 0 2 -1 0", false},
		{"2, 8 0, 1 2 -1 0", true},
		{"2, 8 0, -1 2 -1 0", false},
		{"2, 3 0, 5 0 0 -2", true},
		{"2, 3 0, -5 0 0 2", false},
		{"2, 3 0, 0 1 -1 0, 1 0 0 0 0 0 0 0", false},
		{"2, 3 0, 0 -1 1 0, 1 0 0 0 0 0 0 0", true},
		{"2, 1 1, 0 0 1 0, 0 0 0 0 1 0 0 0", true},
		{"2, 1 1, 0 0 1 0, 1 0 0 0 -1 0 0 0", false},
		{"2, 1 0 0", false},
		{"2 0", false},
		{"2, 1", false},
	} {
		if got := sign.Real(towerOf(row.tower)); got != row.real {
			t.Errorf("P7.1: Real([%s]): %v", row.tower, got)
		}
	}
	if !sign.Real(nil) || !sign.Real([][]api.Rat{}) || sign.Real([][]api.Rat{nil}) || sign.Real([][]api.Rat{{}}) {
		t.Error("P7.1: Real for towers without numbers")
	}
}

// P7.1: towers with radicands of any sign, at any place.
func TestReal(t *testing.T) {
	cases := map[bool]int{}
	scenes(3000, 5, func(s *source, x scene) {
		tw := cloneTower(x.tower)
		if !sign.Real(tw) {
			t.Fatalf("P7.1: Real(%s): false", x.show())
		}
		for i := range tw {
			changed := cloneTower(tw)
			changed[i] = s.Element(1 << i)
			if s.Below(4) == 0 {
				changed[i] = tower.Neg(tw[:i], tw[i])
			}
			_, want := rootsOf(changed)
			if got := sign.Real(changed); got != want {
				t.Fatalf("P7.1: Real(%s): %v", sample.Tower(changed), got)
			}
			cases[want]++
		}
	})
	if cases[true] < 500 || cases[false] < 500 {
		t.Errorf("the scenes have too few cases: %v", cases)
	}
}

// P7.1: the height is not limited.
func TestGreatHeight(t *testing.T) {
	s := source{73}
	var tw [][]api.Rat
	for len(tw) < api.MaxHeight+2 {
		r := nought(1 << len(tw))
		for range 4 {
			r[s.Below(len(r))] = s.Number()
		}
		tw = append(tw, s.positive(tw, r))
	}
	values, _ := rootsOf(tw)
	a := nought(1 << len(tw))
	for p := range a {
		a[p] = rational.FromInt(int64(s.Below(19) - 9))
	}
	i := sign.Enclose(tw, a, 100)
	checkEnclosure(t, scene{tw, values, a, nil}, a, 100)
	for want, n := range map[int]api.Rat{-1: i.High, 1: i.Low} {
		if b := tower.Sub(tw, a, tower.FromRat(tw, n)); sign.Sign(tw, b) != want {
			t.Errorf("P7.1: Sign with a great height: want %d", want)
		}
	}
	if sign.Sign(tw, a) != values.sign(a) || !sign.Real(tw) || sign.Real(append(tw, tower.Neg(tw, tower.Mul(tw, a, a)))) {
		t.Error("P7.1: Sign or Real with a great height")
	}
}
