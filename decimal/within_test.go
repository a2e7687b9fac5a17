package decimal_test

import (
	"math/big"
	"strings"
	"testing"

	"setsquare/api"
	"setsquare/decimal"
	"setsquare/number"
	"setsquare/specimen"
)

// expectWithin checks the result of Within, and returns it.
func expectWithin(t *testing.T, a api.Number, s string) bool {
	t.Helper()
	want := false
	if isFraction(s) {
		center, _ := new(big.Rat).SetString(s)
		_, behind, _ := strings.Cut(s, ".")
		half := new(big.Rat).Quo(big.NewRat(1, 2), power(len(behind)))
		low, high := new(big.Rat).Sub(center, half), new(big.Rat).Add(center, half)
		want = compare(t, a, low) >= 0 && compare(t, a, high) <= 0
	}
	if got := decimal.Within(a, s); got != want {
		t.Fatalf("P11.1: Within(%.600s, %q): %v", show(a), s, got)
	}
	return want
}

// P11.1: numbers and texts of all kinds.
func TestWithinTable(t *testing.T) {
	for _, row := range []struct {
		radicands, coefs, text string
		want                   bool
	}{
		{"", "0", "0", true}, {"", "0", "0.000", true}, {"", "0", "1", false}, {"", "0", "-1", false},
		{"", "0", "0.5", false}, {"", "0", "-0.1", false},
		{"", "1/2", "0", true}, {"", "1/2", "1", true}, {"", "1/2", "2", false}, {"", "-1/2", "0", true}, {"", "-1/2", "-1", true}, {"", "-1/2", "1", false},
		{"", "5/4", "1.2", true}, {"", "5/4", "1.3", true}, {"", "5/4", "1.25", true}, {"", "5/4", "1.250", true}, {"", "5/4", "1.249", false}, {"", "5/4", "1", true}, {"", "5/4", "1.0", false}, {"", "5/4", "1.1", false}, {"", "5/4", "1.4", false}, {"", "5/4", "-1.2", false},
		{"", "-5/4", "-1.2", true}, {"", "-5/4", "-1.3", true}, {"", "-5/4", "-1.1", false}, {"", "-5/4", "1.3", false},
		{"", "1/3", "0.33333", true}, {"", "1/3", "0.33334", false}, {"", "1/3", "0." + strings.Repeat("3", 398), true}, {"", "1/3", "0." + strings.Repeat("3", 397) + "2", false}, {"", "1/3", "0." + strings.Repeat("3", 399), false},
		{"2", "0 1", "1", true}, {"2", "0 1", "1.4", true}, {"2", "0 1", "1.414", true}, {"2", "0 1", "1.415", false}, {"2", "0 1", "1.413", false}, {"2", "0 1", "1.5", false}, {"2", "0 1", "2", false}, {"2", "0 1", "-1.414", false},
		{"2", "0 -1", "-1.414", true}, {"2", "0 -1", "1.414", false}, {"2", "0 -1", "-1.415", false},
		{"2", "5/4 0", "1.3", true}, {"2", "5/4 0", "1.4", false},
		{"2, 3 0", "0 1 1 0", "3.14626", true}, {"2, 3 0", "0 1 1 0", "3.14627", false}, {"2, 3 0", "0 1 1 0", "3.1", true}, {"2, 3 0", "0 1 1 0", "3.2", false},
		{"2, 3 0, 5 0 0 0", "0 1 1 0 1 0 0 0", "5.38233", true}, {"2, 3 0, 5 0 0 0", "0 1 1 0 1 0 0 0", "5.38234", false}, {"2, 1 1, 5 0 0 0", "0 0 0 0 0 0 0 0", "0.0", true},
		// Texts that are not decimal fractions.
		{"", "0", "", false}, {"", "0", "-0", false}, {"", "0", "-0.00", false}, {"", "0", "+0", false}, {"", "0", "00", false}, {"", "0", "0.", false}, {"", "0", ".0", false}, {"", "0", "-", false}, {"", "0", " 0", false}, {"", "0", "0/1", false},
		{"", "1", "+1", false}, {"", "1", "01", false}, {"", "1", "1.", false}, {"", "1", "1 ", false}, {"", "1", "1e0", false}, {"", "1/2", "1/2", false}, {"", "1/2", ".5", false}, {"2", "0 1", "1.4.1", false}, {"2", "0 1", "", false},
	} {
		a := numberOf(row.radicands, row.coefs)
		if got := expectWithin(t, a, row.text); got != row.want {
			t.Errorf("P11.1: Within(%s, %q): the reference says %v", show(a), row.text, got)
		}
	}
}

// P11.1: values that differ from the decimal fraction by half a unit, and by a little more or less.
func TestWithinEnds(t *testing.T) {
	for _, s := range []string{"0", "1", "-1", "0.0", "0.5", "-0.1", "12.50", "-99.999", "0." + strings.Repeat("0", 60), "3." + strings.Repeat("14", 30), "-0." + strings.Repeat("07", 30), "2." + strings.Repeat("71", 40), strings.Repeat("9", 400), "-" + strings.Repeat("8", 399)} {
		_, behind, _ := strings.Cut(s, ".")
		center, half := rat(s), times(fraction(1, len(behind)), rat("1/2"))
		for _, sign := range []string{"1", "-1"} {
			end, out := plus(center, times(half, rat(sign))), rat(sign)
			if !decimal.Within(center, s) || !decimal.Within(end, s) {
				t.Errorf("P11.1: Within is false for %q and its value, or this and %s half a unit", s, sign)
			}
			for _, x := range append(tiny(), fraction(1, 500)) {
				if inner := plus(end, times(x, number.Neg(out))); !decimal.Within(inner, s) {
					t.Errorf("P11.1: Within(%.600s, %q) is false", show(inner), s)
				}
				if outer := plus(end, times(x, out)); decimal.Within(outer, s) {
					t.Errorf("P11.1: Within(%.600s, %q) is true", show(outer), s)
				}
			}
		}
	}
}

// P11.1: texts of 400 bytes and one more.
func TestWithinLengths(t *testing.T) {
	for _, sign := range []string{"", "-"} {
		for _, n := range []int{396, 397, 398, 399} {
			s := sign + "0." + strings.Repeat("1", n)
			a := rat(s)
			if got := expectWithin(t, a, s); got != (len(s) <= 400) {
				t.Errorf("P11.1: Within for a text of %d bytes: %v", len(s), got)
			}
			expectWithin(t, plus(a, fraction(1, n)), s)
			expectWithin(t, plus(a, fraction(5, n+1)), s)
		}
	}
}

// P11.1: numbers of all kinds, and decimal fractions near to them.
func TestWithinNumbers(t *testing.T) {
	in, out := 0, 0
	specimen.Pairs(300, 3, func(s *source, a, b api.Number) {
		digits := []int{0, 1, 60, s.Below(61)}[s.Below(4)]
		exactly, e := decimal.Format(a, digits)
		if e != api.OK {
			return
		}
		shifted := floor(t, a, digits, new(big.Rat).SetFrac64(int64(s.Below(9)-4), 2))
		other, _ := decimal.Short(b, digits)
		for _, x := range []string{exactly, text(shifted, digits), exactly + "0", strings.TrimSuffix(exactly, "0"), other} {
			if expectWithin(t, a, x) {
				in++
			} else {
				out++
			}
		}
	})
	if min(in, out) < 300 {
		t.Errorf("the samples have too few cases: %d and %d", in, out)
	}
}
