package root_test

import (
	"slices"
	"testing"

	"setsquare/api"
	"setsquare/rational"
	"setsquare/root"
	"setsquare/sample"
	"setsquare/tower"
)

// results returns the lists that all functions return.
func results(t [][]api.Rat, a, b []api.Rat) [][]api.Rat {
	root.Reduced(t)
	first, _ := root.Square(t, a)
	second, _ := root.Square(t, b)
	next, w, _ := root.Adjoin(t, a)
	other, v, _ := root.Adjoin(t, b)
	lists := append([][]api.Rat{first, second, w, v, root.Lift(t, a, 0), root.Lift(t, b, 1)}, next...)
	return append(lists, other...)
}

// P8.1: functions change no argument, nor the memory behind it, and the parts of results share no memory with arguments
// or with one another.
func TestMemory(t *testing.T) {
	scenes(800, 4, func(s *source, x scene) {
		switch s.Below(4) {
		case 0:
			// Rational elements take ways of their own.
			x.b = tower.FromRat(x.tower, rational.FromInt(int64(s.Below(10))))
		case 1:
			if height := len(x.tower); height > 0 {
				x.b = tower.Mul(x.tower, raised(x.tower, x.tower[height-1]), square(x.tower, x.b))
			}
		default:
			x.a, x.b = square(x.tower, x.a), absolute(x.tower, x.b)
		}
		cut, arguments := sample.Backed(append(cloneTower(x.tower), x.a, x.b))
		before, height := cloneTower(arguments), len(x.tower)
		// What lies behind the last radicand is not changed either.
		tw := append(cut[:height:height], nil, nil)[:height]
		if !sample.Destroy(results(tw, cut[height], cut[height+1])) {
			t.Fatalf("P8.1: results for %.600s share memory with one another", x.show())
		}
		if !slices.EqualFunc(arguments, before, same) || tw[:height+2][height] != nil {
			t.Fatalf("P8.1: an argument, or the memory behind it, has changed: %.600s", x.show())
		}
	})
}

// P8.1: the results do not depend on earlier calls.
func TestRepetition(t *testing.T) {
	scenes(200, 4, func(s *source, x scene) {
		a := square(x.tower, x.a)
		first := results(x.tower, a, x.b)
		results(x.tower, x.b, x.a)
		if !slices.EqualFunc(first, results(x.tower, a, x.b), same) {
			t.Fatalf("P8.1: other results for the same arguments: %.600s", x.show())
		}
	})
}
