package tower_test

import (
	"setsquare/api"
	"setsquare/sample"
)

var (
	show       = sample.Show
	of         = sample.Of
	towerOf    = sample.Lists
	clone      = sample.Clone
	cloneTower = sample.CloneAll
	same       = sample.Same
	nought     = sample.Zeros
)

// A source yields the same towers and elements in every run.
type source struct{ sample.Source }

// tower returns a formed tower.
func (s *source) tower(height int) [][]api.Rat {
	t := [][]api.Rat{}
	kind := s.Below(5)
	for range height {
		t = append(t, s.Radicand(t, kind))
	}
	return t
}

// A scene consists of a tower and two elements.
type scene struct {
	tower [][]api.Rat
	a, b  []api.Rat
}

// scenes calls a function with many towers of heights up to most, and elements.
func scenes(count, most int, f func(s *source, x scene)) {
	s := source{61}
	for k := range count {
		height := k % (most + 1)
		t := s.tower(height)
		a, b := s.Element(1<<height), s.Element(1<<height)
		if s.Below(20) == 0 {
			b = clone(a)
		}
		f(&s, scene{t, a, b})
	}
}

// show returns the scene as a text.
func (x scene) show() string {
	return sample.Tower(x.tower) + ", elements " + show(x.a) + " and " + show(x.b)
}
