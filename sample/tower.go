package sample

import (
	"setsquare/api"
	"setsquare/rational"
)

// Element returns an element of a tower, a list of n numbers. In most cases many of them are 0.
func (s *Source) Element(n int) []api.Rat {
	a := Zeros(n)
	from, to := 0, n
	switch s.Below(8) {
	case 0:
		from, to = n/2, n
	case 1:
		to = (n + 1) / 2
	case 2:
		from = s.Below(n)
		to = from + 1
	}
	zeros := []int{0, 1, 3}[s.Below(3)]
	for p := from; p < to; p++ {
		if s.Below(zeros+1) == 0 {
			a[p] = s.Number()
		}
	}
	return a
}

// Radicand returns a further radicand of a tower, of some kind: prime numbers, rational numbers, elements, squares of
// rational numbers (also 0), and elements that seldom have zeros.
func (s *Source) Radicand(t [][]api.Rat, kind int) []api.Rat {
	n := 1 << len(t)
	r := Zeros(n)
	switch kind {
	case 0:
		r[0] = rational.FromInt([]int64{2, 3, 5, 7, 11, 13, 17, 19}[len(t)])
	case 1:
		r[0] = s.Number()
	case 2:
		r = s.Element(n)
	case 3:
		r[0] = Of("0 1 4 9/4")[s.Below(4)]
	default:
		for p := range r {
			r[p] = s.Number()
		}
	}
	return r
}

// Raised returns an element as one of a tower: its coefficients and zeros, in new memory.
func Raised(t [][]api.Rat, a []api.Rat) []api.Rat {
	return append(Clone(a), Zeros(1<<len(t)-len(a))...)
}

// OtherLists returns lists that do not have the length of a list, or contain a number that is not in normal form.
func OtherLists(a []api.Rat) [][]api.Rat {
	result := [][]api.Rat{nil, {}, a[:len(a)-1], append(Clone(a), rational.FromInt(0)), append(Clone(a), a...), a[:len(a)/2]}
	for k, x := range Abnormal() {
		for _, p := range []int{0, len(a) / 2, len(a) - 1, k % len(a)} {
			other := Clone(a)
			other[p] = x
			result = append(result, other)
		}
	}
	return result
}

// OtherTowers returns towers that are not formed, of any length.
func OtherTowers(t [][]api.Rat) [][][]api.Rat {
	result := [][][]api.Rat{append(CloneAll(t), nil), append(CloneAll(t), make([][]api.Rat, 80)...), append([][]api.Rat{{}}, t...)}
	for i, r := range t {
		for _, other := range OtherLists(r) {
			changed := CloneAll(t)
			changed[i] = other
			result = append(result, changed)
		}
		if i > 0 {
			exchanged := CloneAll(t)
			exchanged[0], exchanged[i] = exchanged[i], exchanged[0]
			result = append(result, exchanged)
		}
	}
	return result
}

// Tower returns a list of lists as a text.
func Tower(t [][]api.Rat) string {
	text := "tower"
	for _, r := range t {
		text += " " + Show(r)
	}
	return text
}
