package polynomial_test

import (
	"slices"
	"testing"

	"setsquare/api"
	"setsquare/polynomial"
	"setsquare/rational"
)

func clone(a []api.Rat) []api.Rat {
	var result []api.Rat
	for _, c := range a {
		result = append(result, api.Rat{Num: api.Int{Neg: c.Num.Neg, Mag: slices.Clone(c.Num.Mag)}, Den: api.Int{Neg: c.Den.Neg, Mag: slices.Clone(c.Den.Mag)}})
	}
	return result
}

// results returns the polynomials and numbers that all functions return.
func results(a, b []api.Rat, n api.Rat) [][]api.Rat {
	quotient, rest, _ := polynomial.DivMod(a, b)
	var whole []api.Rat
	for _, c := range polynomial.Primitive(a) {
		whole = append(whole, api.Rat{Num: c})
	}
	polynomial.Degree(a)
	return [][]api.Rat{
		polynomial.Trim(a), polynomial.Add(a, b), polynomial.Add(b, a), polynomial.Sub(a, b), polynomial.Sub(b, a), polynomial.Mul(a, b), polynomial.Scale(a, n), polynomial.Compose(a, b), quotient, rest,
		polynomial.GCD(a, b), polynomial.Derivative(a), polynomial.Squarefree(a), whole, {polynomial.Eval(a, n), polynomial.Bound(a)},
	}
}

// P4.1: functions change no argument, and the parts of results share no memory with arguments or with one another.
func TestMemory(t *testing.T) {
	s := source(21)
	row := 0
	pairs(func(a, b []api.Rat) {
		row++
		n := s.number()
		if row%3 == 0 {
			n = rational.FromInt(1)
		}
		a0, b0, n0 := clone(a), clone(b), clone([]api.Rat{n})
		all := results(a, b, n)
		var words, before [][]uint32
		for _, result := range all {
			for _, c := range result {
				words = append(words, c.Num.Mag, c.Den.Mag)
			}
		}
		for _, w := range words {
			before = append(before, slices.Clone(w))
		}
		for k, w := range words {
			if !slices.Equal(w, before[k]) {
				t.Fatalf("P4.1: row %d: part %d of the results shares memory with another one", row, k)
			}
			for j, x := range w[:cap(w)] {
				w[:cap(w)][j] = ^x
			}
		}
		for _, result := range all {
			clear(result[:cap(result)])
		}
		if !same(a, a0) || !same(b, b0) || !sameRat(n, n0[0]) {
			t.Fatalf("P4.1: row %d: an argument has changed", row)
		}
	})
}

// P4.1: what lies behind the end of an argument is not changed.
func TestCapacity(t *testing.T) {
	s := source(22)
	for range 200 {
		a, b := s.some(4), s.some(4)
		longA, longB := append(slices.Clone(a), of("7 8 9 10 11 12")...), append(slices.Clone(b), of("7 8 9 10 11 12")...)
		results(longA[:len(a)], longB[:len(b)], s.number())
		if !same(longA, append(clone(a), of("7 8 9 10 11 12")...)) || !same(longB, append(clone(b), of("7 8 9 10 11 12")...)) {
			t.Fatalf("P4.1: the memory behind %s or %s has changed", show(a), show(b))
		}
	}
}

// Calls with coefficients that are not valid terminate without a panic.
func TestOtherArguments(t *testing.T) {
	forms := []api.Int{{}, {Neg: true, Mag: []uint32{0, 0}}, {Mag: []uint32{6}}, {Neg: true, Mag: []uint32{4}}, {Mag: []uint32{4, 0, 0}}}
	var numbers []api.Rat
	for _, num := range forms {
		for _, den := range forms {
			numbers = append(numbers, api.Rat{Num: num, Den: den})
		}
	}
	var odd [][]api.Rat
	s := source(23)
	for _, x := range numbers {
		for range 6 {
			odd = append(odd, []api.Rat{numbers[s.below(len(numbers))], x}, []api.Rat{x, rational.FromInt(1), numbers[s.below(len(numbers))]})
		}
		odd = append(odd, []api.Rat{x})
	}
	for i, a := range odd {
		for k := 0; k < len(odd); k += 5 {
			results(a, odd[(i+k)%len(odd)], numbers[(i+k)%len(numbers)])
		}
	}
}
