package decimal_test

import (
	"math/big"
	"regexp"
	"strings"
	"testing"

	"setsquare/api"
	"setsquare/decimal"
	"setsquare/rational"
	"setsquare/sample"
)

var (
	form   = regexp.MustCompile(`^-?(0|[1-9][0-9]*)(\.[0-9]+)?$`)
	nought = regexp.MustCompile(`^-[0.]*$`)
)

// isFraction reports whether a text is a decimal fraction.
func isFraction(s string) bool {
	return len(s) <= 400 && form.MatchString(s) && !strings.HasSuffix(s, "\n") && !nought.MatchString(s)
}

// expectParse checks the result of Parse.
func expectParse(t *testing.T, s string) {
	t.Helper()
	got, e := decimal.Parse(s)
	if !isFraction(s) {
		if e != api.ErrSyntax || !sample.SameRat(got, api.Rat{}) {
			t.Fatalf("P11.1: Parse(%q): %v, %v", s, got, e)
		}
		return
	}
	want, _ := new(big.Rat).SetString(s)
	if e != api.OK || !rational.Valid(got) || bigRat(got).Cmp(want) != 0 {
		t.Fatalf("P11.1: Parse(%q): %v, %v", s, got, e)
	}
}

// P11.1: the values of decimal fractions.
func TestParse(t *testing.T) {
	for s, want := range map[string]string{
		"0": "0", "0.0": "0", "0.000": "0", "7": "7", "-7": "-7", "10": "10", "-100": "-100", "1.0": "1", "-1.250": "-5/4",
		"0.5": "1/2", "-0.5": "-1/2", "0.05": "1/20", "-0.01": "-1/100", "10.01": "1001/100", "3.14159": "314159/100000",
		"12345678901234567890.5": "24691357802469135781/2",
	} {
		if got, e := decimal.Parse(s); e != api.OK || rational.Format(got) != want {
			t.Errorf("P11.1: Parse(%q): %v, %v, want %s", s, got, e, want)
		}
		expectParse(t, s)
	}
}

// P11.1: texts that are not decimal fractions.
func TestParseErrors(t *testing.T) {
	for _, s := range []string{
		"", "-", "+", ".", "-.", "+.", "+0", "+1", "+1.5", "+-1", "-+1", "--1", "1-", "1-1", "1+1", "-1-",
		".5", "-.5", "5.", "-5.", "0.", "-0.", "1..5", "1.5.", ".1.5", "1.2.3", "..", "1.-5", "1.+5", "-1.-5",
		"00", "01", "-01", "00.5", "-00.5", "01.5", "007", "000", "0000.1",
		"-0", "-0.0", "-0.00", "-0.000000",
		" 1", "1 ", "1 000", "- 1", "1. 5", "1 .5", "\t1", "1\n", "1.5\n", "\n1", "1\r", "1\x00", "\x00", "1,5", "1_000", "1'000",
		"1e5", "1E5", "1e-5", "0x1", "0b1", "1/2", "3/1", "-1/2", "0/1", "1/2.5", "1.5/2", "/", "1/", "inf", "Inf", "NaN", "nan",
		"a", "1a", "a1", "1.5a", "1.a", "½", "١", "１", "−1", "1·5", "1\u00a0", "\ufeff1", "1\xff", "\xff",
	} {
		if got, e := decimal.Parse(s); e != api.ErrSyntax || !sample.SameRat(got, api.Rat{}) {
			t.Errorf("P11.1: Parse(%q): %v, %v", s, got, e)
		}
		if isFraction(s) {
			t.Errorf("the reference takes %q as a decimal fraction", s)
		}
	}
}

// P11.1: all short texts of some bytes.
func TestParseAll(t *testing.T) {
	bytes := "015.-+/ e"
	var extend func(s string)
	count := 0
	extend = func(s string) {
		expectParse(t, s)
		if isFraction(s) {
			count++
		}
		if len(s) < 5 {
			for i := range len(bytes) {
				extend(s + bytes[i:i+1])
			}
		}
	}
	extend("")
	if count < 500 {
		t.Errorf("only %d decimal fractions", count)
	}
	for b := range 256 {
		for _, s := range []string{"1", "-1", "1.5"} {
			for i := range len(s) + 1 {
				expectParse(t, s[:i]+string([]byte{byte(b)})+s[i:])
			}
		}
	}
}

// P11.1: texts of 400 bytes and one more, and those with more than 60 digits behind the point.
func TestParseLengths(t *testing.T) {
	for _, begin := range []string{"", "-", "0.", "-0.", "1.", "-12345.", "7", "-7"} {
		for _, n := range []int{61, 100, 399, 400, 401, 402, 800, 70000} {
			for _, digit := range []string{"9", "0", "1"} {
				s := begin + strings.Repeat(digit, n-len(begin)-1)
				expectParse(t, s+"0")
				expectParse(t, s+"3")
				expectParse(t, s+".")
				if got := isFraction(s + "3"); got != (n <= 400 && (digit != "0" || len(begin) > 1 || begin == "7")) {
					t.Errorf("the reference says %v for %.20q of %d bytes", got, s+"3", n)
				}
			}
		}
	}
}
