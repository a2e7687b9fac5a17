package tower_test

import (
	"slices"
	"testing"

	"setsquare/api"
	"setsquare/sample"
	"setsquare/tower"
)

// results returns the lists that all functions return.
func results(t [][]api.Rat, a, b []api.Rat, n api.Rat, i int) [][]api.Rat {
	tower.Formed(t, a)
	tower.Zero(a)
	first, _ := tower.Rational(a)
	rest, _ := tower.Rational(append([]api.Rat{n}, nought(2)...))
	inverse, _ := tower.Inv(t, a)
	conjugate, _ := tower.Conjugate(t, a, i)
	return [][]api.Rat{
		{first, rest}, inverse, conjugate, tower.FromRat(t, n), tower.Root(t, i), tower.Norm(t, a), tower.Neg(t, a),
		tower.Add(t, a, b), tower.Sub(t, a, b), tower.Mul(t, a, b), tower.Mul(t, b, a), tower.Mul(t, a, a),
	}
}

// P6.1: functions change no argument, and the parts of results share no memory with arguments or with one another.
func TestMemory(t *testing.T) {
	scenes(1500, 4, func(s *source, x scene) {
		n := []api.Rat{s.Number()}
		for k := range x.a {
			if s.Below(3) == 0 {
				// Elements that are 0, 1 or rational take ways of their own.
				x.a[k] = of("0 1")[s.Below(2)]
			}
		}
		arguments := append(cloneTower(x.tower), x.a, x.b, n)
		before := cloneTower(arguments)
		if !sample.Destroy(results(arguments[:len(x.tower)], x.a, x.b, n[0], s.Below(len(x.tower)+1))) {
			t.Fatalf("P6.1: results for %.600s share memory with one another", x.show())
		}
		if !slices.EqualFunc(arguments, before, same) {
			t.Fatalf("P6.1: an argument has changed: %v", before)
		}
	})
}

// P6.1: rational elements, and those of a tower below, in all combinations.
func TestMemoryOfRationals(t *testing.T) {
	tw := towerOf("2, 3 0, 1/5 0 1 0")
	var elements [][]api.Rat
	for _, text := range []string{"0", "1", "-7/3", "0 1", "3 1/2", "0 0 1", "1 2 3", "0 0 0 0 1"} {
		a := of(text)
		elements = append(elements, append(a, nought(8-len(a))...))
	}
	for _, a := range elements {
		for _, b := range elements {
			arguments := append(cloneTower(tw), clone(a), clone(b), of("5/4"))
			before := cloneTower(arguments)
			for i := range 4 {
				if !sample.Destroy(results(arguments[:3], arguments[3], arguments[4], arguments[5][0], i)) {
					t.Fatalf("P6.1: results for %s and %s share memory with one another", show(a), show(b))
				}
			}
			if !slices.EqualFunc(arguments, before, same) {
				t.Fatalf("P6.1: an argument has changed: %s or %s", show(a), show(b))
			}
		}
	}
}

// P6.1: what lies behind the end of an argument is not changed.
func TestCapacity(t *testing.T) {
	scenes(300, 4, func(s *source, x scene) {
		cut, lists := sample.Backed(append(cloneTower(x.tower), x.a, x.b))
		before, height := cloneTower(lists), len(x.tower)
		results(cut[:height], cut[height], cut[height+1], s.Number(), s.Below(height+1))
		if !slices.EqualFunc(lists, before, same) {
			t.Fatalf("P6.1: the memory behind an argument has changed: %.600s", x.show())
		}
	})
}
