package decimal_test

import (
	"slices"
	"testing"

	"setsquare/api"
	"setsquare/decimal"
	"setsquare/sample"
	"setsquare/specimen"
)

// results calls all functions for a number, and returns the integers and rational numbers of the results, and the texts.
func results(a api.Number, digits int) ([]api.Rat, []string) {
	below, _ := decimal.Floor(a, digits)
	near, _ := decimal.Round(a, digits)
	whole, _ := decimal.Format(a, digits)
	trimmed, _ := decimal.Short(a, digits)
	first, _ := decimal.Parse(whole)
	second, _ := decimal.Parse(trimmed)
	decimal.Within(a, whole)
	decimal.Within(a, "1.5")
	return []api.Rat{{Num: below}, {Num: near}, first, second}, []string{whole, trimmed}
}

// P11.1: functions change no argument, nor the memory behind it, and the parts of results share no memory with arguments
// or with one another.
func TestMemory(t *testing.T) {
	whole := []api.Number{numberOf("", "0"), numberOf("", "7"), numberOf("2", "-12345678901234567890 0"), numberOf("", "0.5")}
	check := func(a api.Number, digits int) {
		cut, arguments := sample.Backed(specimen.Lists(a))
		before := sample.CloneAll(arguments)
		n := len(a.Radicands)
		// What lies behind the last radicand is not changed either.
		x := api.Number{Radicands: append(cut[:n:n], nil, nil)[:n], Coefs: cut[n]}
		numbers, _ := results(x, digits)
		if !sample.Destroy([][]api.Rat{numbers}) {
			t.Fatalf("P11.1: results for %.600s share memory", show(a))
		}
		if !slices.EqualFunc(arguments, before, sample.Same) || x.Radicands[:n+2][n] != nil {
			t.Fatalf("P11.1: an argument, or the memory behind it, has changed: %.600s", show(a))
		}
	}
	specimen.Pairs(300, 3, func(s *source, a, b api.Number) {
		check(a, []int{0, 1, 60, s.Below(61)}[s.Below(4)])
		check(b, 0)
	})
	for _, a := range whole {
		check(a, 0)
		check(a, 60)
		check(a, 61)
	}
}

// P11.1: the results do not depend on earlier calls.
func TestRepetition(t *testing.T) {
	specimen.Pairs(100, 3, func(s *source, a, b api.Number) {
		numbers, texts := results(a, 12)
		results(b, 7)
		again, sameTexts := results(a, 12)
		if !sample.Same(numbers, again) || !slices.Equal(texts, sameTexts) {
			t.Fatalf("P11.1: other results for the same arguments: %.600s", show(a))
		}
	})
}

// The functions terminate without a panic for values that are no numbers.
func TestStrange(t *testing.T) {
	for _, a := range specimen.Strange() {
		for _, digits := range append(outside(), 0, 1, 60) {
			results(a, digits)
		}
		for _, s := range []string{"", "0", "-0.5", "1.25", "-", "1/2"} {
			decimal.Within(a, s)
		}
	}
}
