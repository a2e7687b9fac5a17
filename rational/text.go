package rational

import (
	"strings"

	"setsquare/api"
	"setsquare/integer"
)

// Format returns the text.
func Format(a api.Rat) string {
	text := integer.Format(a.Num)
	if !isOne(a.Den) {
		text += "/" + integer.Format(a.Den)
	}
	return text
}

// Parse returns the number of a text: an integer, a quotient, or a decimal fraction.
func Parse(s string) (api.Rat, api.Errno) {
	if len(s) > api.MaxText {
		return api.Rat{}, api.ErrSyntax
	}
	unsigned, negative := strings.CutPrefix(s, "-")
	a, ok := parseUnsigned(unsigned)
	switch {
	case !ok, negative && Sign(a) == 0:
		return api.Rat{}, api.ErrSyntax
	case negative:
		return Neg(a), api.OK
	}
	return a, api.OK
}

// parseUnsigned returns the number of a text without a sign, or false.
func parseUnsigned(s string) (api.Rat, bool) {
	if before, after, found := strings.Cut(s, "."); found {
		return parseDecimal(before, after)
	}
	if before, after, found := strings.Cut(s, "/"); found {
		return parseQuotient(before, after)
	}
	if !isNatural(s) {
		return api.Rat{}, false
	}
	return whole(natural(s)), true
}

// parseDecimal returns the decimal fraction with some text before the point and after it, or false.
func parseDecimal(before, after string) (api.Rat, bool) {
	if !isNatural(before) || !isDigits(after) {
		return api.Rat{}, false
	}
	scale := natural("1" + strings.Repeat("0", len(after)))
	a, e := Make(natural(before+after), scale)
	return a, e == api.OK
}

// parseQuotient returns the quotient in lowest terms with some text before the slash and after it, or false.
func parseQuotient(before, after string) (api.Rat, bool) {
	if !isNatural(before) || !isNatural(after) || after == "1" {
		return api.Rat{}, false
	}
	a := api.Rat{Num: natural(before), Den: natural(after)}
	if !Valid(a) {
		return api.Rat{}, false
	}
	return a, true
}

// isDigits reports whether a text consists of one digit or more.
func isDigits(s string) bool {
	for i := range len(s) {
		if s[i] < '0' || s[i] > '9' {
			return false
		}
	}
	return s != ""
}

// isNatural reports whether a text consists of digits without superfluous zeros.
func isNatural(s string) bool { return isDigits(s) && (s == "0" || s[0] != '0') }

// natural returns the integer of digits, which may begin with superfluous zeros.
func natural(digits string) api.Int {
	n, _ := integer.Parse(strings.TrimLeft(digits, "0"))
	// What cannot be read is the empty text of 0, for which n is 0.
	return n
}
