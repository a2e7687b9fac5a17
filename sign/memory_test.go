package sign_test

import (
	"slices"
	"testing"

	"setsquare/api"
	"setsquare/rational"
	"setsquare/sample"
	"setsquare/sign"
	"setsquare/tower"
)

// results returns the numbers that all functions return.
func results(t [][]api.Rat, a, b []api.Rat, bits int) [][]api.Rat {
	sign.Real(t)
	sign.Sign(t, a)
	sign.Cmp(t, a, b)
	i, j := sign.Enclose(t, a, bits), sign.Enclose(t, b, bits)
	return [][]api.Rat{{i.Low, i.High, j.Low, j.High}, {{Num: sign.Floor(t, a)}, {Num: sign.Floor(t, b)}}}
}

// P7.1: functions change no argument, and the parts of results share no memory with arguments or with one another.
func TestMemory(t *testing.T) {
	scenes(1500, 4, func(s *source, x scene) {
		if s.Below(3) == 0 {
			// Rational elements, integers among them, take ways of their own.
			x.a, x.b = tower.FromRat(x.tower, s.Number()), tower.FromRat(x.tower, rational.FromInt(int64(s.Below(3)-1)))
		}
		cut, arguments := sample.Backed(append(cloneTower(x.tower), x.a, x.b))
		before, height := cloneTower(arguments), len(x.tower)
		if !sample.Destroy(results(cut[:height:height+1], cut[height], cut[height+1], s.Below(200))) {
			t.Fatalf("P7.1: results for %.600s share memory with one another", x.show())
		}
		if !slices.EqualFunc(arguments, before, sample.Same) {
			t.Fatalf("P7.1: an argument, or the memory behind it, has changed: %.600s", x.show())
		}
	})
}

// P7.1: the results do not depend on earlier calls.
func TestRepetition(t *testing.T) {
	scenes(200, 4, func(s *source, x scene) {
		bits := s.Below(sign.MaxBits + 1)
		first := results(x.tower, x.a, x.b, bits)
		results(x.tower, x.b, x.a, s.Below(sign.MaxBits+1))
		if !slices.EqualFunc(first, results(x.tower, x.a, x.b, bits), sample.Same) {
			t.Fatalf("P7.1: other results for the same arguments: %.600s", x.show())
		}
	})
}
