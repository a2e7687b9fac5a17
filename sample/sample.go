// Package sample contains what the tests of several layers use: numbers that are the same in every run, and lists of
// numbers as texts and in memory. The layers do not use it.
package sample

import (
	"slices"
	"strings"

	"setsquare/api"
	"setsquare/integer"
	"setsquare/rational"
)

// A Source yields the same numbers in every run.
type Source uint64

// Below returns a number from 0 to n - 1.
func (s *Source) Below(n int) int {
	*s = *s*6364136223846793005 + 1442695040888963407
	return int(uint64(*s>>32) % uint64(max(n, 1)))
}

// Number returns a number in normal form: mostly a small one, and every second one an integer.
func (s *Source) Number() api.Rat {
	switch s.Below(8) {
	case 0:
		return Long(int64(s.Below(9)-4), 30+s.Below(60), int64(1+s.Below(7)), s.Below(40))
	case 1:
		return rational.Frac(int64(s.Below(2000001)-1000000), int64(1+s.Below(50)))
	case 2, 3:
		return rational.Frac(int64(s.Below(17)-8), int64(1+s.Below(6)))
	}
	return rational.FromInt(int64(s.Below(15) - 7))
}

// Long returns num 3^m / (den 10^n).
func Long(num int64, m int, den int64, n int) api.Rat {
	threes, _ := integer.Pow(integer.FromInt(3), m)
	tens, _ := integer.Pow(integer.FromInt(10), n)
	a, _ := rational.Make(integer.Mul(integer.FromInt(num), threes), integer.Mul(integer.FromInt(den), tens))
	return a
}

// Abnormal returns numbers that are not in normal form.
func Abnormal() []api.Rat {
	whole := integer.FromInt
	return []api.Rat{
		{},
		{Num: whole(1)},
		{Den: whole(-1)},
		{Den: whole(2)},
		{Num: whole(2), Den: whole(4)},
		{Num: whole(3), Den: whole(-4)},
		{Num: whole(-5), Den: whole(5)},
		{Num: whole(1 << 40), Den: whole(1 << 33)},
		{Num: api.Int{Neg: true}, Den: whole(1)},
		{Num: api.Int{Mag: []uint32{0}}, Den: whole(1)},
		{Num: api.Int{Mag: []uint32{7, 0}}, Den: whole(1)},
		{Num: api.Int{Mag: []uint32{7, 0}}, Den: whole(2)},
		{Num: whole(7), Den: api.Int{Mag: []uint32{1, 0}}},
		{Num: whole(7), Den: api.Int{Mag: []uint32{2, 0}}},
	}
}

// Zeros returns a list of n zeros.
func Zeros(n int) []api.Rat {
	a := make([]api.Rat, n)
	for p := range a {
		a[p] = rational.FromInt(0)
	}
	return a
}

// Of returns the list of a text: numbers that are separated by spaces. One that cannot be read becomes a number that
// is not in normal form, so that tests fail.
func Of(text string) []api.Rat {
	a := []api.Rat{}
	for _, word := range strings.Fields(text) {
		n, _ := rational.Parse(word)
		a = append(a, n)
	}
	return a
}

// Lists returns the lists of a text, which are separated by commas.
func Lists(text string) [][]api.Rat {
	var lists [][]api.Rat
	if text != "" {
		for _, part := range strings.Split(text, ",") {
			lists = append(lists, Of(part))
		}
	}
	return lists
}

// Show returns a list as a text.
func Show(a []api.Rat) string {
	var words []string
	for _, c := range a {
		words = append(words, rational.Format(c))
	}
	return "[" + strings.Join(words, " ") + "]"
}

// Clone returns a list in new memory.
func Clone(a []api.Rat) []api.Rat {
	var result []api.Rat
	for _, c := range a {
		result = append(result, api.Rat{Num: api.Int{Neg: c.Num.Neg, Mag: slices.Clone(c.Num.Mag)}, Den: api.Int{Neg: c.Den.Neg, Mag: slices.Clone(c.Den.Mag)}})
	}
	return result
}

// CloneAll returns lists in new memory.
func CloneAll(lists [][]api.Rat) [][]api.Rat {
	var result [][]api.Rat
	for _, a := range lists {
		result = append(result, Clone(a))
	}
	return result
}

// Backed returns lists in new memory, and the same lists with numbers behind their ends in the same memory.
func Backed(lists [][]api.Rat) (cut, whole [][]api.Rat) {
	for _, a := range lists {
		long := append(Clone(a), Of("7 -8 9/5 10 11 12 13 14 15 16 17 18 19 20 21 22 23")...)
		cut, whole = append(cut, long[:len(a)]), append(whole, long)
	}
	return cut, whole
}

func sameInt(a, b api.Int) bool { return a.Neg == b.Neg && slices.Equal(a.Mag, b.Mag) }

// SameRat reports whether two numbers have the same form.
func SameRat(a, b api.Rat) bool { return sameInt(a.Num, b.Num) && sameInt(a.Den, b.Den) }

// Same reports whether two lists have the same form.
func Same(a, b []api.Rat) bool { return slices.EqualFunc(a, b, SameRat) }

// Destroy changes all words of some lists, and reports whether no two of them, or of their numbers, share memory.
func Destroy(lists [][]api.Rat) bool {
	var words, before [][]uint32
	for _, a := range lists {
		for _, c := range a {
			words = append(words, c.Num.Mag, c.Den.Mag)
		}
	}
	for _, w := range words {
		before = append(before, slices.Clone(w))
	}
	for k, w := range words {
		if !slices.Equal(w, before[k]) {
			return false
		}
		for j, x := range w[:cap(w)] {
			w[:cap(w)][j] = ^x
		}
	}
	for _, a := range lists {
		clear(a[:cap(a)])
	}
	return true
}
