package decimal

import (
	"strings"

	"setsquare/api"
	"setsquare/integer"
	"setsquare/rational"
)

// maxBytes is the greatest length of a decimal fraction.
const maxBytes = 400

// Format returns the rounded number with a number of decimal places.
func Format(a api.Number, digits int) (string, api.Errno) {
	n, e := Round(a, digits)
	if e != api.OK {
		return "", e
	}
	// An integer of more than 4 maxBytes binary digits has more than maxBytes decimal ones, and it may take long to
	// write them.
	if integer.Bits(n) > 4*maxBytes {
		return "", api.ErrTooLarge
	}
	text := pointed(n, digits)
	if len(text) > maxBytes {
		return "", api.ErrTooLarge
	}
	return text, api.OK
}

// pointed returns the decimal digits of an integer with a point before the last ones, if they are not none.
func pointed(n api.Int, digits int) string {
	unsigned, negative := strings.CutPrefix(integer.Format(n), "-")
	text := strings.Repeat("0", max(digits+1-len(unsigned), 0)) + unsigned
	if digits > 0 {
		before := len(text) - digits
		text = text[:before] + "." + text[before:]
	}
	if negative {
		text = "-" + text
	}
	return text
}

// Short returns the rounded number without zeros at the end.
func Short(a api.Number, digits int) (string, api.Errno) {
	text, e := Format(a, digits)
	if strings.Contains(text, ".") {
		text = strings.TrimSuffix(strings.TrimRight(text, "0"), ".")
	}
	return text, e
}

// Parse returns the rational number of a decimal fraction.
func Parse(s string) (api.Rat, api.Errno) {
	// Package rational also reads longer texts, and quotients.
	if len(s) > maxBytes || strings.Contains(s, "/") {
		return api.Rat{}, api.ErrSyntax
	}
	return rational.Parse(s)
}

// places returns the number of digits behind the point of a decimal fraction.
func places(s string) int {
	_, behind, _ := strings.Cut(s, ".")
	return len(behind)
}
