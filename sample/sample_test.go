package sample_test

import (
	"testing"

	"setsquare/api"
	"setsquare/rational"
	"setsquare/sample"
	"setsquare/tower"
)

// The numbers are in normal form, and those of Abnormal are not.
func TestNumbers(t *testing.T) {
	s := sample.Source(1)
	for range 1000 {
		if a := s.Number(); !rational.Valid(a) {
			t.Fatalf("not in normal form: %v", a)
		}
	}
	for _, a := range sample.Abnormal() {
		if rational.Valid(a) {
			t.Errorf("in normal form: %v", a)
		}
	}
}

// Destroy finds out whether lists share memory.
func TestDestroy(t *testing.T) {
	a := sample.Of("1 -2/3 99999999999")
	b := sample.Clone(a)
	if !sample.Same(a, b) || !sample.Destroy([][]api.Rat{a, b}) || sample.Same(b, sample.Of("1 -2/3 99999999999")) {
		t.Error("lists in different memory")
	}
	c := sample.Of("5 7")
	c[0].Den = c[1].Num
	if sample.Destroy([][]api.Rat{c}) {
		t.Error("a list whose numbers share memory")
	}
	d := sample.Of("5 7")
	if sample.Destroy([][]api.Rat{d, {d[1]}}) {
		t.Error("lists that share memory")
	}
}

// Radicands and elements are formed for a tower, and OtherLists and OtherTowers are not.
func TestTowers(t *testing.T) {
	s := sample.Source(2)
	for kind := range 5 {
		tw := [][]api.Rat{}
		for len(tw) < 4 {
			tw = append(tw, s.Radicand(tw, kind))
		}
		a := s.Element(1 << len(tw))
		if !tower.Formed(tw, a) {
			t.Fatalf("not formed: %s, %s", sample.Tower(tw), sample.Show(a))
		}
		for _, b := range sample.OtherLists(a) {
			if tower.Formed(tw, b) {
				t.Fatalf("formed: %s, %v", sample.Tower(tw), b)
			}
		}
		for _, other := range sample.OtherTowers(tw) {
			if tower.Formed(other, a) {
				t.Fatalf("formed: %v", other)
			}
		}
	}
}
