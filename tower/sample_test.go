package tower_test

import (
	"strings"

	"setsquare/api"
	"setsquare/rational"
	"setsquare/sample"
)

var (
	show       = sample.Show
	of         = sample.Of
	towerOf    = sample.Lists
	clone      = sample.Clone
	cloneTower = sample.CloneAll
	same       = sample.Same
	nought     = sample.Zeros
)

// A source yields the same towers and elements in every run.
type source struct{ sample.Source }

// element returns a list of n numbers, many of which are 0 in most cases.
func (s *source) element(n int) []api.Rat {
	a := nought(n)
	from, to := 0, n
	switch s.Below(8) {
	case 0:
		from, to = n/2, n
	case 1:
		to = (n + 1) / 2
	case 2:
		from = s.Below(n)
		to = from + 1
	}
	zeros := []int{0, 1, 3}[s.Below(3)]
	for p := from; p < to; p++ {
		if s.Below(zeros+1) == 0 {
			a[p] = s.Number()
		}
	}
	return a
}

// radicand returns a radicand of a tower of some kind: rational ones, elements of the tower below, or any that are
// squares or 0.
func (s *source) radicand(t [][]api.Rat, kind int) []api.Rat {
	n := 1 << len(t)
	r := nought(n)
	switch kind {
	case 0:
		r[0] = rational.FromInt([]int64{2, 3, 5, 7, 11, 13, 17, 19}[len(t)])
	case 1:
		r[0] = s.Number()
	case 2:
		r = s.element(n)
	case 3:
		r[0] = of("0 1 4 9/4")[s.Below(4)]
	default:
		for p := range r {
			r[p] = s.Number()
		}
	}
	return r
}

// tower returns a formed tower.
func (s *source) tower(height int) [][]api.Rat {
	t := [][]api.Rat{}
	kind := s.Below(5)
	for range height {
		t = append(t, s.radicand(t, kind))
	}
	return t
}

// A scene consists of a tower and two elements.
type scene struct {
	tower [][]api.Rat
	a, b  []api.Rat
}

// scenes calls a function with many towers of heights up to most, and elements.
func scenes(count, most int, f func(s *source, x scene)) {
	s := source{61}
	for k := range count {
		height := k % (most + 1)
		t := s.tower(height)
		a, b := s.element(1<<height), s.element(1<<height)
		if s.Below(20) == 0 {
			b = clone(a)
		}
		f(&s, scene{t, a, b})
	}
}

// show returns the scene as a text.
func (x scene) show() string {
	var words []string
	for _, r := range x.tower {
		words = append(words, show(r))
	}
	return "tower " + strings.Join(words, " ") + ", elements " + show(x.a) + " and " + show(x.b)
}
