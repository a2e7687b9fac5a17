package sturm_test

import (
	"math/big"
	"testing"

	"setsquare/sturm"
)

// P5.1: the number of roots greater than low and at most high, also where ends are roots, and none unless low is less
// than high. It is the difference of the changes of the chain (Sturm's theorem).
func TestCount(t *testing.T) {
	polynomials(func(s *source, k known) {
		chain := sturm.Chain(k.poly)
		for range 12 {
			low, high := s.end(k), s.end(k)
			want := 0
			if low.Cmp(high) < 0 {
				want = k.count(low, high)
				if changes := sturm.Changes(chain, normal(low)) - sturm.Changes(chain, normal(high)); changes != want {
					t.Fatalf("P5.1: the changes of the chain of %.300s from %s to %s are %d, for %d roots", show(k.poly), low.RatString(), high.RatString(), changes, want)
				}
			}
			if got := sturm.Count(k.poly, normal(low), normal(high)); got != want {
				t.Fatalf("P5.1: Count(%.300s, %s, %s): got %d, want %d", show(k.poly), low.RatString(), high.RatString(), got, want)
			}
		}
		if got := sturm.Total(k.poly); got != len(k.roots) {
			t.Fatalf("P5.1: Total(%.300s): got %d, want %d", show(k.poly), got, len(k.roots))
		}
	})
}

// P5.1: roots exactly at low, at high and at 0, multiple roots, ends that are the same or exchanged, zeros at the end.
func TestCountRows(t *testing.T) {
	for _, x := range []struct {
		poly, low, high string
		want            int
	}{
		{"-2 0 1", "0", "2", 1}, {"-2 0 1", "-2", "0", 1}, {"-2 0 1", "-2", "2", 2}, {"-2 0 1", "2", "-2", 0}, {"-2 0 1", "3/2", "2", 0}, {"-2 0 1", "7/5", "3/2", 1}, {"-2 0 1", "1", "1", 0},
		{"-1 1", "1", "2", 0}, {"-1 1", "0", "1", 1}, {"-1 1", "1", "1", 0}, {"-1 1", "2", "1", 0}, {"-1 1", "1", "0", 0}, {"-1 1", "2", "0", 0}, {"-1 1 0 0", "0", "1", 1},
		{"0 1", "0", "1", 0}, {"0 1", "-1", "0", 1}, {"0 1", "-1", "1", 1}, {"0 1", "0", "0", 0}, {"0 0 0 -7", "-1/9", "0", 1}, {"0 -1 0 1", "-1", "1", 2}, {"0 -1 0 1", "-2", "1", 3}, {"0 -1 0 1", "-1", "0", 1}, {"0 -1 0 1", "0", "1", 1}, {"0 -1 0 1", "-2", "-1", 1}, {"0 -1 0 1", "1", "2", 0},
		{"3 -5 1 1", "-3", "1", 1}, {"3 -5 1 1", "-4", "1", 2}, {"3 -5 1 1", "-4", "0", 1}, {"3 -5 1 1 0", "-3", "5", 1}, {"1 -2 1", "0", "1", 1}, {"1 -2 1", "1", "2", 0}, {"4 0 -4 0 1", "0", "2", 1},
		{"-2 0 1", "-100000000000000000000", "100000000000000000000", 2}, {"-2 0 1", "50", "100", 0}, {"-2 0 1", "-100", "-50", 0}, {"-1000000 0 1", "999", "1000", 1}, {"-1 1000000000000", "0", "1/1000000000000", 1}, {"-1 1000000000000", "1/1000000000000", "1", 0},
		{"-255 -31 -3 1", "8", "16", 1}, {"255 -31 3 1", "-16", "-8", 1}, {"-255 -31 -3 1", "0", "1000", 1}, {"-2047 -255 -31 -3 1", "-1000", "1000", 2},
	} {
		if got := sturm.Count(of(x.poly), fraction(x.low), fraction(x.high)); got != x.want {
			t.Errorf("P5.1: Count(%s, %s, %s): got %d", x.poly, x.low, x.high, got)
		}
	}
}

// P5.1: 0 in its forms, constants, and polynomials without real roots.
func TestRootless(t *testing.T) {
	for _, a := range rootless() {
		if n := sturm.Total(a); n != 0 {
			t.Errorf("P5.1: Total(%s): got %d", show(a), n)
		}
		if l := sturm.Isolate(a); len(l) != 0 {
			t.Errorf("P5.1: Isolate(%s): got %d intervals", show(a), len(l))
		}
		for _, x := range []string{"-3", "0", "1/2"} {
			for _, y := range []string{"-1", "0", "100"} {
				if n := sturm.Count(a, fraction(x), fraction(y)); n != 0 {
					t.Errorf("P5.1: Count(%s, %s, %s): got %d", show(a), x, y, n)
				}
			}
		}
	}
}

// P5.1: the examples of the chapter that no other test contains.
func TestExamples(t *testing.T) {
	if n := sturm.Total(of("3 -5 1 1")); n != 2 {
		t.Errorf("P5.1: Total of (X - 1)^2 (X + 3): got %d", n)
	}
}

// P5.1: great degrees, and roots whose distances are very small, take no long time.
func TestGreatDegree(t *testing.T) {
	if n := sturm.Total(wilkinson(50).poly); n != 50 {
		t.Errorf("P5.1: 50 roots: got %d", n)
	}
	powers := of("-2")
	for range 149 {
		powers = append(powers, fraction("0"))
	}
	if n := sturm.Total(append(powers, fraction("1"))); n != 2 {
		t.Errorf("P5.1: X^150 - 2: got %d roots", n)
	}
	tiny := new(big.Rat).SetFrac(big.NewInt(2), power(2, 1000))
	pair := product(big.NewRat(3, 1), []factor{quadratic(big.NewRat(1, 3), tiny), quadratic(big.NewRat(2, 3), new(big.Rat).Neg(tiny)), linear(big.NewRat(1, 3))}, []int{1, 1, 2})
	if n := sturm.Total(pair.poly); n != 3 {
		t.Errorf("P5.1: close roots: got %d", n)
	}
}
