package sign

import (
	"math/bits"

	"setsquare/api"
	"setsquare/integer"
	"setsquare/interval"
	"setsquare/rational"
	"setsquare/tower"
)

// A field is a real tower, with the views of it that were needed so far, by their numbers of words.
type field struct {
	tower [][]api.Rat
	views map[int]view
}

// fieldOf returns the field of a tower, and whether the tower is real, and a formed for it.
func fieldOf(t [][]api.Rat, a []api.Rat) (field, bool) {
	if !tower.Formed(t, a) {
		return field{}, false
	}
	f := field{t, map[int]view{}}
	for _, r := range t {
		// This needs only the square roots of the radicands before r, which are positive.
		if f.sign(r) != 1 {
			return field{}, false
		}
	}
	return f, true
}

// view returns the view with some number of words.
func (f field) view(words int) view {
	v, ok := f.views[words]
	if !ok {
		v = view{f.tower, words, map[int]bounds{}}
		f.views[words] = v
	}
	return v
}

// halves returns a and b for the element a + b s, where s is the last square root.
func halves(a []api.Rat) ([]api.Rat, []api.Rat) { return a[:len(a)/2], a[len(a)/2:] }

// height returns the number of radicands of the tower of an element.
func height(a []api.Rat) int { return bits.Len(uint(len(a))) - 1 }

// sign returns the sign of an element of the tower of the first radicands. The rule of the chapter needs coefficients
// of twice as many digits for each radicand, so bounds are tried first if there is more than one.
func (f field) sign(a []api.Rat) int {
	if len(a) == 1 {
		return rational.Sign(a[0])
	}
	low, high := halves(a)
	if tower.Zero(high) {
		return f.sign(low)
	}
	if len(a) > 2 {
		if s, ok := f.clearSign(a); ok {
			return s
		}
	}
	s, t := f.sign(low), f.sign(high)
	switch {
	case s == t || t == 0:
		return s
	case s == 0:
		return t
	}
	return f.sign(tower.Norm(f.tower[:height(a)], a)) * s
}

// clearSign returns the sign that the bounds of an element show, and whether they show one. Bounds with twice as many
// digits as the coefficients have show it if the element is not 0, and not one of the few that are extremely near to it.
func (f field) clearSign(a []api.Rat) (int, bool) {
	digits := max(size(f.tower[:height(a)]...), size(a))
	for words := 2; words <= 4+2*digits/wordBits; words *= 2 {
		b := f.view(words).enclose(a)
		if s := integer.Sign(b.low); s == integer.Sign(b.high) {
			return s, true
		}
	}
	return 0, false
}

// size returns the greatest number of binary digits of the numerators and denominators of some lists.
func size(lists ...[]api.Rat) int {
	digits := 0
	for _, list := range lists {
		for _, c := range list {
			digits = max(digits, integer.Bits(c.Num), integer.Bits(c.Den))
		}
	}
	return digits
}

// enclose returns an interval of a width of at most 2^-bits that contains an element.
func (f field) enclose(a []api.Rat, bits int) api.Interval {
	for words := 2 + bits/wordBits; ; words *= 2 {
		b := f.view(words).enclose(a)
		if integer.Bits(integer.Sub(b.high, b.low)) < words*wordBits-bits {
			// The width is less than 2^-bits / 2. The ends get short by rounding, which adds at most as much to it.
			return interval.Round(b.interval(words), bits+2)
		}
	}
}
