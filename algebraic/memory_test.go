package algebraic_test

import (
	"slices"
	"testing"

	"setsquare/algebraic"
	"setsquare/api"
	"setsquare/sample"
	"setsquare/specimen"
)

// words returns the coefficients of a form as a list of numbers, in the same memory.
func words(a api.Algebraic) []api.Rat {
	var l []api.Rat
	for _, n := range a.Poly {
		l = append(l, api.Rat{Num: n})
	}
	return l
}

// backed returns a form in new memory, with integers behind the end of its list, and this longer list.
func backed(a api.Algebraic) (api.Algebraic, []api.Int) {
	long := append(clone(a).Poly, form("7 -8 9", 0).Poly...)
	return api.Algebraic{Poly: long[:len(a.Poly)], Root: a.Root}, long
}

// results calls all functions for forms, and returns the lists of the results.
func results(a, b api.Algebraic) [][]api.Rat {
	i, _ := algebraic.Enclose(a, 20)
	j, _ := algebraic.Enclose(b, 0)
	c, _ := algebraic.Parse(algebraic.Format(a))
	algebraic.Valid(a)
	algebraic.Same(a, b)
	algebraic.Cmp(a, b)
	return [][]api.Rat{{i.Low, i.High}, {j.Low, j.High}, words(c)}
}

// P10.1: functions change no argument, nor the memory behind it, and the parts of results share no memory with arguments
// or with one another.
func TestMemory(t *testing.T) {
	specimen.Pairs(200, 2, func(s *source, a, b api.Number) {
		cut, arguments := sample.Backed(specimen.Lists(a))
		before := sample.CloneAll(arguments)
		n := len(a.Radicands)
		x := api.Number{Radicands: append(cut[:n:n], nil, nil)[:n], Coefs: cut[n]}
		f, g := algebraic.Of(x), algebraic.Of(b)
		if !sample.Destroy([][]api.Rat{words(f), words(g), algebraic.Minimal(x), algebraic.Minimal(x)}) {
			t.Fatalf("P10.1: results for %.600s share memory", showNum(a))
		}
		if !slices.EqualFunc(arguments, before, sample.Same) || x.Radicands[:n+2][n] != nil {
			t.Fatalf("P10.1: an argument, or the memory behind it, has changed: %.600s", showNum(a))
		}
	})
	all := append(valid(), invalid()...)
	for k, a := range all {
		f, long := backed(a)
		g, other := backed(all[k*7%len(all)])
		before, otherBefore := clone(api.Algebraic{Poly: long}), clone(api.Algebraic{Poly: other})
		if !sample.Destroy(results(f, g)) {
			t.Fatalf("P10.1: results for %v share memory", a)
		}
		if !algebraic.Same(before, api.Algebraic{Poly: long}) || !algebraic.Same(otherBefore, api.Algebraic{Poly: other}) {
			t.Fatalf("P10.1: an argument, or the memory behind it, has changed: %v or %v", a, g)
		}
	}
}

// P10.1: the results do not depend on earlier calls.
func TestRepetition(t *testing.T) {
	specimen.Pairs(60, 2, func(_ *source, a, b api.Number) {
		first := algebraic.Of(a)
		before := results(first, algebraic.Of(b))
		if !algebraic.Same(first, algebraic.Of(a)) || !slices.EqualFunc(before, results(first, algebraic.Of(b)), sample.Same) {
			t.Fatalf("P10.1: other results for the same arguments: %.600s and %.600s", showNum(a), showNum(b))
		}
	})
}

// The functions terminate without a panic for values that are no numbers; these have no minimal polynomial.
func TestStrange(t *testing.T) {
	for _, a := range specimen.Strange() {
		if f := algebraic.Minimal(a); len(f) != 0 {
			t.Errorf("Minimal(%v): %s", a, showPoly(f))
		}
		if f := algebraic.Of(a); len(f.Poly) != 0 || f.Root != 0 {
			t.Errorf("Of(%v): %s", a, show(f))
		}
	}
}
