package root

import (
	"testing"

	"setsquare/api"
	"setsquare/rational"
	"setsquare/sample"
	"setsquare/sign"
	"setsquare/tower"
)

// fields calls a function with the fields of reduced towers of all kinds, with heights from highTower on.
func fields(t *testing.T, f func(s *sample.Source, g *field)) {
	s := sample.Source(83)
	for k := range 60 {
		height, kind := highTower+k%4, k%5
		tw := [][]api.Rat{}
		for len(tw) < height {
			next, _, e := Adjoin(tw, s.Radicand(tw, kind))
			if e != api.OK || len(next) == len(tw) {
				kind = s.Below(5)
			}
			if e == api.OK {
				tw = next
			}
		}
		g, ok := fieldOf(tw, sample.Zeros(1<<height))
		if !ok {
			t.Fatalf("P8.1: not reduced: %.600s", sample.Tower(tw))
		}
		f(&s, g)
	}
}

// short returns an element with short coefficients.
func short(s *sample.Source, n int) []api.Rat {
	a := sample.Zeros(n)
	for p := range a {
		a[p] = rational.Frac(int64(s.Below(15)-7), int64(1+s.Below(3)))
	}
	return a
}

// P8.1: the square roots of a place are those of the first radicands, and the next radicand has none.
func TestPlaces(t *testing.T) {
	fields(t, func(s *sample.Source, g *field) {
		for roots := range len(g.tower) + 1 {
			for i := range enough {
				m, ok := g.place(roots, i)
				if !ok || len(m.roots) != roots || m.prime%4 != 3 {
					t.Fatalf("P8.1: place %d with %d square roots: %v, %v", i, roots, m, ok)
				}
				for k, n := range m.roots {
					if x, ok := m.image(g.tower[k]); !ok || x == 0 || n*n%m.prime != x {
						t.Fatalf("P8.1: place %v: the radicand %d: %d, %v", m, k, x, ok)
					}
				}
				if roots < len(g.tower) {
					x, ok := m.image(g.tower[roots])
					if _, square := m.squareRoot(x); !ok || square {
						t.Fatalf("P8.1: place %v: the next radicand: %d, %v", m, x, ok)
					}
				}
			}
		}
	})
}

// P8.1: a place maps sums to sums, and products to products.
func TestImages(t *testing.T) {
	fields(t, func(s *sample.Source, g *field) {
		m, _ := g.place(len(g.tower), 0)
		a, b := short(s, 1<<len(g.tower)), s.Element(1<<len(g.tower))
		x, _ := m.image(a)
		y, ok := m.image(b)
		if !ok {
			return
		}
		sum, _ := m.image(tower.Add(g.tower, a, b))
		product, _ := m.image(tower.Mul(g.tower, a, b))
		if sum != (x+y)%m.prime || product != x*y%m.prime {
			t.Fatalf("P8.1: place %v: %s: %d, %s: %d, sum: %d, product: %d", m, sample.Show(a), x, sample.Show(b), y, sum, product)
		}
	})
}

// P8.1: no place excludes squares; nearly all other elements are excluded.
func TestExcluded(t *testing.T) {
	others, excluded := 0, 0
	fields(t, func(s *sample.Source, g *field) {
		for height := highTower; height <= len(g.tower); height++ {
			below := g.tower[:height]
			a := short(s, 1<<height)
			if g.excludes(tower.Mul(below, a, a)) {
				t.Fatalf("P8.1: a square is excluded: %.600s, %s", sample.Tower(below), sample.Show(a))
			}
			candidates := [][]api.Rat{a, tower.FromRat(below, rational.FromInt(101))}
			if height < len(g.tower) {
				candidates = append(candidates, g.tower[height])
			}
			for _, c := range candidates {
				if _, ok := g.root(c); !ok {
					others++
					if g.excludes(c) {
						excluded++
					}
				}
			}
		}
	})
	if others < 200 || excluded*10 < others*9 {
		t.Errorf("P8.1: %d of %d elements are excluded", excluded, others)
	}
}

// P8.1: the square roots are the same if the prime numbers are used up.
func TestWithoutPlaces(t *testing.T) {
	fields(t, func(s *sample.Source, g *field) {
		if len(g.tower) > 4 {
			return
		}
		bare := &field{tower: g.tower, places: make([][]place, len(g.tower)+1)}
		a := short(s, 1<<len(g.tower))
		square := tower.Mul(g.tower, a, a)
		factor := append(tower.FromRat(g.tower[:1], rational.FromInt(101)), sample.Zeros(len(a)-2)...)
		for _, b := range [][]api.Rat{a, square, tower.Mul(g.tower, square, factor), factor} {
			w, ok := g.positiveRoot(b)
			v, found := bare.positiveRoot(b)
			if found != ok || !sample.Same(v, w) {
				t.Fatalf("P8.1: %.600s, %s: %s, %v, and without places %s, %v", sample.Tower(g.tower), sample.Show(b), sample.Show(w), ok, sample.Show(v), found)
			}
			if ok && (!sample.Same(tower.Mul(g.tower, w, w), b) || sign.Sign(g.tower, w) < 0) {
				t.Fatalf("P8.1: %.600s, %s: %s", sample.Tower(g.tower), sample.Show(b), sample.Show(w))
			}
		}
		if _, ok := bare.place(0, 0); ok {
			t.Fatal("P8.1: a place without prime numbers")
		}
	})
}
