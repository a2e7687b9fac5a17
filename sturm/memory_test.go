package sturm_test

import (
	"slices"
	"testing"

	"setsquare/api"
	"setsquare/rational"
	"setsquare/sturm"
)

func clone(a []api.Rat) []api.Rat {
	var result []api.Rat
	for _, c := range a {
		result = append(result, api.Rat{Num: api.Int{Neg: c.Num.Neg, Mag: slices.Clone(c.Num.Mag)}, Den: api.Int{Neg: c.Den.Neg, Mag: slices.Clone(c.Den.Mag)}})
	}
	return result
}

// results returns the numbers of all that the functions return.
func results(chain [][]api.Rat, a []api.Rat, i api.Interval, width api.Rat) [][]api.Rat {
	sturm.Changes(chain, i.Low)
	sturm.Count(a, i.Low, i.High)
	sturm.Total(a)
	sturm.Root(a, i)
	refined, _ := sturm.Refine(a, i, width)
	all := append(sturm.Chain(a), []api.Rat{refined.Low, refined.High})
	for _, part := range sturm.Isolate(a) {
		all = append(all, []api.Rat{part.Low, part.High})
	}
	return all
}

// destroy changes all words of some lists, and reports whether no two of them, or of their numbers, share memory.
func destroy(lists [][]api.Rat) bool {
	var words, before [][]uint32
	for _, a := range lists {
		for _, c := range a {
			words = append(words, c.Num.Mag, c.Den.Mag)
		}
	}
	for _, w := range words {
		before = append(before, slices.Clone(w))
	}
	for k, w := range words {
		if !slices.Equal(w, before[k]) {
			return false
		}
		for j, x := range w[:cap(w)] {
			w[:cap(w)][j] = ^x
		}
	}
	for _, a := range lists {
		clear(a[:cap(a)])
	}
	return true
}

// P5.1: functions change no argument, and the parts of results share no memory with arguments or with one another.
func TestMemory(t *testing.T) {
	polynomials(func(s *source, k known) {
		intervals := append(sturm.Isolate(k.poly), api.Interval{Low: normal(s.end(k)), High: normal(s.end(k))}, from("-1", "0"))
		i := intervals[s.below(len(intervals))]
		width := []api.Rat{fraction("1/1000"), fraction("1000000000"), fraction("0")}[s.below(3)]
		chain := [][]api.Rat{clone(k.poly), nil, of("1 0")}
		arguments := [][]api.Rat{chain[0], chain[2], k.poly, {i.Low, i.High, width}}
		var before [][]api.Rat
		for _, a := range arguments {
			before = append(before, clone(a))
		}
		if !destroy(results(chain, k.poly, i, width)) {
			t.Fatalf("P5.1: results for %.300s and %s share memory with one another", show(before[2]), showInterval(i))
		}
		if !slices.EqualFunc(arguments, before, same) {
			t.Fatalf("P5.1: an argument has changed: %.300s, %v", show(before[2]), before[3])
		}
	})
}

// P5.1: what lies behind the end of an argument is not changed.
func TestCapacity(t *testing.T) {
	s := source(58)
	for range 60 {
		k := s.known(3)
		long := append(clone(k.poly), of("7 8 9 10 11 12")...)
		results([][]api.Rat{long[:len(k.poly)]}, long[:len(k.poly)], from("-1", "100"), fraction("1/9"))
		if !same(long, append(clone(k.poly), of("7 8 9 10 11 12")...)) {
			t.Fatalf("P5.1: the memory behind %.300s has changed", show(k.poly))
		}
	}
}

// Calls with numbers that are not valid terminate without a panic.
func TestOtherArguments(t *testing.T) {
	forms := []api.Int{{}, {Neg: true, Mag: []uint32{0, 0}}, {Mag: []uint32{6}}, {Neg: true, Mag: []uint32{4}}, {Mag: []uint32{4, 0, 0}}}
	var numbers []api.Rat
	for _, num := range forms {
		for _, den := range forms {
			numbers = append(numbers, api.Rat{Num: num, Den: den})
		}
	}
	s := source(57)
	some := func() api.Rat { return numbers[s.below(len(numbers))] }
	for _, x := range numbers {
		for range 40 {
			odd := [][]api.Rat{{some(), x}, {x, rational.FromInt(1), some()}, {some(), x, some(), rational.FromInt(-3)}, {x}, of("-2 0 1")}
			for _, a := range odd {
				results(odd, a, api.Interval{Low: some(), High: x}, some())
				results(odd, a, from("0", "2"), x)
			}
		}
	}
}
