package interval_test

import (
	"slices"
	"testing"

	"setsquare/api"
	"setsquare/interval"
	"setsquare/rational"
)

func clone(a api.Rat) api.Rat {
	return api.Rat{Num: api.Int{Neg: a.Num.Neg, Mag: slices.Clone(a.Num.Mag)}, Den: api.Int{Neg: a.Den.Neg, Mag: slices.Clone(a.Den.Mag)}}
}

// parts returns the lists of words of an interval.
func parts(a api.Interval) [][]uint32 {
	return [][]uint32{a.Low.Num.Mag, a.Low.Den.Mag, a.High.Num.Mag, a.High.Den.Mag}
}

// results returns the intervals that all functions return.
func results(a, b api.Interval, x api.Rat) []api.Interval {
	divided, _ := interval.Div(a, b)
	root, _ := interval.Sqrt(positive(a), 8)
	direct, _ := interval.Sqrt(a, 0)
	common, _ := interval.Meet(a, b)
	same, _ := interval.Meet(a, a)
	interval.Valid(a)
	interval.Contains(a, x)
	interval.Within(a, b)
	interval.Sign(a)
	return []api.Interval{
		interval.Point(x), interval.Point(a.Low), interval.Add(a, b), interval.Sub(a, b), interval.Mul(a, b), divided, root, direct, common, same,
		interval.Round(a, 4), interval.Round(a, 100), {Low: interval.Width(a), High: rational.FromInt(0)},
	}
}

// P3.1: functions change no argument, and the parts of results share no memory with arguments or with one another.
func TestMemory(t *testing.T) {
	s := source(41)
	for i := range 1500 {
		a, b, x := s.interval(), s.interval(), s.number()
		a0, b0, x0 := api.Interval{Low: clone(a.Low), High: clone(a.High)}, api.Interval{Low: clone(b.Low), High: clone(b.High)}, clone(x)
		var words, before [][]uint32
		for _, result := range results(a, b, x) {
			words = append(words, parts(result)...)
		}
		for _, w := range words {
			before = append(before, slices.Clone(w))
		}
		for k, w := range words {
			if !slices.Equal(w, before[k]) {
				t.Fatalf("P3.1: row %d: part %d of the results shares memory with another one", i, k)
			}
			all := w[:cap(w)]
			for j := range all {
				all[j] = ^all[j]
			}
		}
		if !same(a, a0) || !same(b, b0) || !sameRat(x, x0) {
			t.Fatalf("P3.1: row %d: an argument has changed", i)
		}
	}
}

// Calls with values that are not valid terminate without a panic.
func TestOtherArguments(t *testing.T) {
	forms := []api.Int{{}, {Neg: true, Mag: []uint32{0, 0}}, {Mag: []uint32{6}}, {Neg: true, Mag: []uint32{4}}, {Mag: []uint32{4, 0, 0}}}
	var numbers []api.Rat
	for _, num := range forms {
		for _, den := range forms {
			numbers = append(numbers, api.Rat{Num: num, Den: den})
		}
	}
	var odd []api.Interval
	for _, low := range numbers {
		for _, high := range numbers {
			odd = append(odd, api.Interval{Low: low, High: high})
		}
	}
	for i, a := range odd {
		interval.Valid(a)
		interval.Point(a.Low)
		interval.Width(a)
		interval.Sign(a)
		interval.Contains(a, numbers[i%len(numbers)])
		for _, bits := range []int{-1, 0, 3, interval.MaxBits + 1} {
			interval.Sqrt(a, bits)
			interval.Round(a, bits)
		}
		for k := 0; k < len(odd); k += 7 {
			b := odd[(i+k)%len(odd)]
			interval.Within(a, b)
			interval.Add(a, b)
			interval.Sub(a, b)
			interval.Mul(a, b)
			interval.Div(a, b)
			interval.Meet(a, b)
		}
	}
}
