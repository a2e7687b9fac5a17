package number_test

import (
	"slices"
	"testing"

	"setsquare/api"
	"setsquare/number"
	"setsquare/sample"
	"setsquare/specimen"
)

// results returns the lists of all results for two numbers. The square of a number has a square root in its tower.
func results(a, b, square api.Number, c api.Rat) [][]api.Rat {
	var found [][]api.Rat
	keep := func(x api.Number, _ api.Errno) { found = append(found, lists(x)...) }
	for _, l := range [][2]api.Number{{a, b}, {b, a}, {a, a}} {
		keep(number.Add(l[0], l[1]))
		keep(number.Sub(l[0], l[1]))
		keep(number.Mul(l[0], l[1]))
		keep(number.Div(l[0], l[1]))
		number.Cmp(l[0], l[1])
		number.Equal(l[0], l[1])
	}
	for _, x := range []api.Number{a, b, square} {
		keep(number.Sqrt(x))
		keep(number.Trim(x), api.OK)
		keep(number.Neg(x), api.OK)
		y, _ := number.Rational(x)
		found = append(found, []api.Rat{y})
		number.Valid(x)
		number.Sign(x)
		number.Height(x)
	}
	for _, l := range [][]api.Number{nil, {a}, {a, b, square, a}, {b, b}} {
		joined, _ := number.Join(l)
		for _, x := range joined {
			keep(x, api.OK)
		}
	}
	keep(number.FromRat(c), api.OK)
	return found
}

// P9.1: functions change no argument, nor the memory behind it, and the parts of results share no memory with arguments
// or with one another.
func TestMemory(t *testing.T) {
	pairs(500, 2, func(s *source, a, b api.Number) {
		square := must(number.Mul(a, a))
		c := s.Number()
		cut, arguments := sample.Backed(slices.Concat(lists(a), lists(b), lists(square), [][]api.Rat{{c}}))
		before := sample.CloneAll(arguments)
		var numbers []api.Number
		rest := cut
		for _, x := range []api.Number{a, b, square} {
			n := len(x.Radicands)
			// What lies behind the last radicand is not changed either.
			numbers = append(numbers, api.Number{Radicands: append(rest[:n:n], nil, nil)[:n], Coefs: rest[n]})
			rest = rest[n+1:]
		}
		if !sample.Destroy(results(numbers[0], numbers[1], numbers[2], rest[0][0])) {
			t.Fatalf("P9.1: results for %.600s and %.600s share memory", show(a), show(b))
		}
		if !slices.EqualFunc(arguments, before, same) {
			t.Fatalf("P9.1: an argument, or the memory behind it, has changed: %.600s or %.600s", show(a), show(b))
		}
		for _, x := range numbers {
			if n := len(x.Radicands); x.Radicands[:n+2][n] != nil {
				t.Fatalf("P9.1: the memory behind the radicands has changed: %.600s or %.600s", show(a), show(b))
			}
		}
	})
}

// P9.1: the results do not depend on earlier calls.
func TestRepetition(t *testing.T) {
	pairs(200, 2, func(s *source, a, b api.Number) {
		c := s.Number()
		first := results(a, b, a, c)
		results(b, a, b, c)
		if !slices.EqualFunc(first, results(a, b, a, c), same) {
			t.Fatalf("P9.1: other results for the same arguments: %.600s and %.600s", show(a), show(b))
		}
	})
}

// Valid is false for values that are no numbers, and the other functions terminate without a panic for them.
func TestStrange(t *testing.T) {
	all := specimen.Strange()
	for _, a := range all {
		if number.Valid(a) {
			t.Errorf("P9.1: Valid(%v)", a)
		}
	}
	high := rootsOf(primes(api.MaxHeight)...)
	valid := []api.Number{whole(1), rootOf(2), rootsOf(3, 8), numberOf("6, 5 2", "0 0 0 1")}
	for k, a := range all {
		number.FromRat(append(a.Coefs, api.Rat{})[0])
		number.Join([]api.Number{high, a})
		number.Equal(high, a)
		for _, b := range append(valid, all[k%7*13%len(all)], all[k*k%len(all)], all[k*11%len(all)]) {
			results(a, b, a, api.Rat{})
			number.Join([]api.Number{b, a, b})
		}
	}
}
