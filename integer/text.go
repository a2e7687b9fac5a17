package integer

import (
	"slices"
	"strconv"
	"strings"

	"setsquare/api"
)

// Decimal digits are converted in groups, whose values fit into a word, and written in blocks of groups.
const (
	groupDigits = 9
	groupPower  = 1000000000
	blockDigits = 16 * groupDigits
)

// Format returns the decimal digits.
func Format(a api.Int) string {
	m := trim(a.Mag)
	if len(m) == 0 {
		return "0"
	}
	text := decimalDigits(m)
	if a.Neg {
		text = "-" + text
	}
	return text
}

// decimalDigits returns the digits of a number. A long one is split by powers of 10, each of which is the square of
// the one before, because a division by a long number is faster than many by a word.
func decimalDigits(m magnitude) string {
	if len(m) <= 2 {
		return strconv.FormatUint(toUint(m), 10)
	}
	var powers []magnitude
	for p := power(magnitude{10}, blockDigits); compare(p, m) <= 0; p = multiply(p, p) {
		powers = append(powers, p)
	}
	return strings.TrimLeft(string(appendDigits(nil, m, powers)), "0")
}

// appendDigits appends the digits of m, with zeros before them up to a block for no powers, and twice as many digits
// for each power.
func appendDigits(text []byte, m magnitude, powers []magnitude) []byte {
	if len(powers) == 0 {
		return appendBlock(text, m)
	}
	n := len(powers) - 1
	high, low := divide(m, powers[n])
	text = appendDigits(text, high, powers[:n])
	return appendDigits(text, low, powers[:n])
}

// appendBlock appends the digits of m, with zeros before them up to a block.
func appendBlock(text []byte, m magnitude) []byte {
	block := make([]byte, blockDigits)
	rest := slices.Clone(m)
	for end := blockDigits; end > 0; end -= groupDigits {
		group := divideByWord(rest, groupPower)
		rest = trim(rest)
		for i := end - 1; i >= end-groupDigits; i-- {
			block[i] = '0' + byte(group%10)
			group /= 10
		}
	}
	return append(text, block...)
}

// Parse returns the integer of a text.
func Parse(s string) (api.Int, api.Errno) {
	digits, negative := strings.CutPrefix(s, "-")
	if len(s) > api.MaxText || !isDecimal(digits) || negative && digits == "0" {
		return api.Int{}, api.ErrSyntax
	}
	return signed(negative, parseDigits(digits)), api.OK
}

// isDecimal reports whether a text consists of digits without superfluous zeros.
func isDecimal(s string) bool {
	for i := range len(s) {
		if s[i] < '0' || s[i] > '9' {
			return false
		}
	}
	return s == "0" || s != "" && s[0] != '0'
}

// parseDigits returns the number of a text of digits.
func parseDigits(s string) magnitude {
	words := make(magnitude, 0, len(s)/groupDigits+1)
	var group, weight uint64 = 0, 1
	for i := range len(s) {
		group, weight = 10*group+uint64(s[i]-'0'), 10*weight
		if (len(s)-1-i)%groupDigits == 0 {
			words = appendGroup(words, weight, group)
			group, weight = 0, 1
		}
	}
	return words
}

// appendGroup multiplies words by a power of 10, and adds the value of a group of digits.
func appendGroup(words magnitude, weight, carry uint64) magnitude {
	for i, w := range words {
		carry += uint64(w) * weight
		words[i] = uint32(carry)
		carry >>= 32
	}
	if carry != 0 {
		words = append(words, uint32(carry))
	}
	return words
}
