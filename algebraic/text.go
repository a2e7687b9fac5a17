package algebraic

import (
	"strconv"
	"strings"

	"setsquare/api"
	"setsquare/integer"
)

// The text of a form: opening, the coefficients, closing and Root.
const (
	opening = "algebraic ["
	closing = "] "
)

// Format returns the text of a valid form.
func Format(a api.Algebraic) string {
	if !Valid(a) {
		return ""
	}
	var words []string
	for _, n := range a.Poly {
		words = append(words, integer.Format(n))
	}
	return opening + strings.Join(words, " ") + closing + strconv.Itoa(a.Root)
}

// Parse returns the valid form of a text.
func Parse(s string) (api.Algebraic, api.Errno) {
	a, ok := read(s)
	if !ok || !Valid(a) {
		return api.Algebraic{}, api.ErrSyntax
	}
	return a, api.OK
}

// read returns the form of a text, which need not be valid, or false.
func read(s string) (api.Algebraic, bool) {
	rest, opened := strings.CutPrefix(s, opening)
	list, number, closed := strings.Cut(rest, closing)
	root, err := strconv.Atoi(number)
	if !opened || !closed || err != nil || strconv.Itoa(root) != number {
		return api.Algebraic{}, false
	}
	var poly []api.Int
	for _, word := range strings.Split(list, " ") {
		n, ok := readInt(word)
		if !ok {
			return api.Algebraic{}, false
		}
		poly = append(poly, n)
	}
	return api.Algebraic{Poly: poly, Root: root}, true
}

// partDigits is the number of digits of the parts in which the end of a long integer is read.
const partDigits = 4096

// readInt returns the integer of a text, or false. Package integer reads at most MaxText bytes, but coefficients may be
// longer.
func readInt(s string) (api.Int, bool) {
	begin := len(s)
	for begin > api.MaxText {
		begin -= partDigits
	}
	n, e := integer.Parse(s[:begin])
	sign := integer.FromInt(int64(integer.Sign(n)))
	scale, _ := integer.Pow(integer.FromInt(10), partDigits)
	for ; e == api.OK && begin < len(s); begin += partDigits {
		var part api.Int
		// A part may begin with 0, so 1 is put before it.
		part, e = integer.Parse("1" + s[begin:begin+partDigits])
		n = integer.Add(integer.Mul(n, scale), integer.Mul(sign, integer.Sub(part, scale)))
	}
	return n, e == api.OK
}
