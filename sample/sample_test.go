package sample_test

import (
	"testing"

	"setsquare/api"
	"setsquare/rational"
	"setsquare/sample"
	"setsquare/tower"
)

// The numbers are in normal form, and those of Abnormal are not.
func TestNumbers(t *testing.T) {
	s := sample.Source(1)
	for range 1000 {
		if a := s.Number(); !rational.Valid(a) {
			t.Fatalf("not in normal form: %v", a)
		}
	}
	for _, a := range sample.Abnormal() {
		if rational.Valid(a) {
			t.Errorf("in normal form: %v", a)
		}
	}
}

// Destroy finds out whether lists share memory.
func TestDestroy(t *testing.T) {
	a := sample.Of("1 -2/3 99999999999")
	b := sample.Clone(a)
	if !sample.Same(a, b) || !sample.Destroy([][]api.Rat{a, b}) || sample.Same(b, sample.Of("1 -2/3 99999999999")) {
		t.Error("lists in different memory")
	}
	c := sample.Of("5 7")
	c[0].Den = c[1].Num
	if sample.Destroy([][]api.Rat{c}) {
		t.Error("a list whose numbers share memory")
	}
	d := sample.Of("5 7")
	if sample.Destroy([][]api.Rat{d, {d[1]}}) {
		t.Error("lists that share memory")
	}
}

// Backed keeps the lists, with numbers behind them.
func TestBacked(t *testing.T) {
	lists := sample.Lists("1 -2/3, 5")
	cut, whole := sample.Backed(lists)
	for k, a := range lists {
		if !sample.Same(cut[k], a) || !sample.Same(whole[k][:len(a)], a) || len(whole[k]) == len(a) || &cut[k][0] != &whole[k][0] || &cut[k][0] == &a[0] {
			t.Errorf("the list %s: %s and %s", sample.Show(a), sample.Show(cut[k]), sample.Show(whole[k]))
		}
	}
}

// Raised elements have further coefficients, which are 0.
func TestRaised(t *testing.T) {
	tw := sample.Lists("2, 3 0")
	for text, want := range map[string]string{"5": "5 0 0 0", "1 2": "1 2 0 0", "1 2 3 4": "1 2 3 4"} {
		if got := sample.Raised(tw, sample.Of(text)); !sample.Same(got, sample.Of(want)) {
			t.Errorf("Raised(%s): %s", text, sample.Show(got))
		}
	}
}

// Radicands and elements are formed for a tower, and OtherLists and OtherTowers are not.
func TestTowers(t *testing.T) {
	s := sample.Source(2)
	for kind := range 5 {
		tw := [][]api.Rat{}
		for len(tw) < 4 {
			tw = append(tw, s.Radicand(tw, kind))
		}
		a := s.Element(1 << len(tw))
		if !tower.Formed(tw, a) {
			t.Fatalf("not formed: %s, %s", sample.Tower(tw), sample.Show(a))
		}
		for _, b := range sample.OtherLists(a) {
			if tower.Formed(tw, b) {
				t.Fatalf("formed: %s, %v", sample.Tower(tw), b)
			}
		}
		for _, other := range sample.OtherTowers(tw) {
			if tower.Formed(other, a) {
				t.Fatalf("formed: %v", other)
			}
		}
	}
}
