package sturm_test

import (
	"math/big"
	"slices"
	"testing"

	"setsquare/api"
	"setsquare/polynomial"
	"setsquare/rational"
	"setsquare/sturm"
)

// checkRoots checks that the second polynomial has the roots of the first one: all together, in any interval, and with
// the same numbers.
func checkRoots(t *testing.T, s *source, k known, a []api.Rat) {
	t.Helper()
	if total := sturm.Total(a); total != sturm.Total(k.poly) || total != len(sturm.Isolate(a)) {
		t.Fatalf("P5.2: %.300s has %d roots", show(a), total)
	}
	for range 4 {
		low, high := normal(s.end(k)), normal(s.end(k))
		if got, want := sturm.Count(a, low, high), sturm.Count(k.poly, low, high); got != want {
			t.Fatalf("P5.2: Count(%.300s, %s, %s): got %d, not %d", show(a), rational.Format(low), rational.Format(high), got, want)
		}
	}
	for n, i := range sturm.Isolate(k.poly) {
		if got, e := sturm.Root(a, i); got != n || e != api.OK {
			t.Fatalf("P5.2: Root(%.300s, %s): got %d, %v, not %d", show(a), showInterval(i), got, e, n)
		}
	}
}

// P5.2: a polynomial and its products with itself have the same roots.
func TestPowers(t *testing.T) {
	s := source(55)
	for range 80 {
		k := s.known(3)
		square := polynomial.Mul(k.poly, k.poly)
		checkRoots(t, &s, k, square)
		checkRoots(t, &s, k, polynomial.Mul(square, k.poly))
	}
}

// P5.2: the roots of a product are the roots of the factors: each root of a product is one of some factor, and there
// are as many as the factors have together, without those that both have.
func TestProducts(t *testing.T) {
	s := source(56)
	for range 120 {
		a, b := s.known(3).poly, s.known(3).poly
		if s.below(2) == 0 {
			b = polynomial.Mul(b, s.known(2).poly)
			a = polynomial.Mul(a, b)
		}
		both, product := polynomial.GCD(a, b), polynomial.Mul(a, b)
		if got, want := sturm.Total(product), sturm.Total(a)+sturm.Total(b)-sturm.Total(both); got != want {
			t.Fatalf("P5.2: Total of the product of %.300s and %.300s: got %d, want %d", show(a), show(b), got, want)
		}
		for _, i := range sturm.Isolate(product) {
			inA, inB, inBoth := sturm.Count(a, i.Low, i.High), sturm.Count(b, i.Low, i.High), sturm.Count(both, i.Low, i.High)
			if inA+inB-inBoth != 1 {
				t.Fatalf("P5.2: %s contains a root of the product of %.300s and %.300s, but %d and %d of these", showInterval(i), show(a), show(b), inA, inB)
			}
		}
	}
}

// P5.2: counts add up for neighbouring intervals, whose common end may be a root.
func TestNeighbours(t *testing.T) {
	polynomials(func(s *source, k known) {
		ends := []*big.Rat{big.NewRat(-1<<40, 1), big.NewRat(1<<40, 1)}
		for range 6 {
			ends = append(ends, s.end(k))
		}
		slices.SortFunc(ends, (*big.Rat).Cmp)
		sum := 0
		for i, end := range ends[1:] {
			sum += sturm.Count(k.poly, normal(ends[i]), normal(end))
		}
		if all := sturm.Count(k.poly, normal(ends[0]), normal(ends[len(ends)-1])); sum != all || all != sturm.Total(k.poly) {
			t.Fatalf("P5.2: %.300s has %d roots, but %d in all parts together", show(k.poly), all, sum)
		}
	})
}
