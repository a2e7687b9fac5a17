package rational_test

import (
	"math/big"
	"strings"
	"testing"

	"setsquare/api"
	"setsquare/rational"
)

func TestFormat(t *testing.T) {
	s := source(11)
	for range 3000 {
		a := s.number()
		if got, want := rational.Format(a), value(a).RatString(); got != want {
			t.Fatalf("P2.1: Format: got %s, want %s", got, want)
		}
	}
	for _, x := range []struct {
		num, den int64
		want     string
	}{{0, 1, "0"}, {7, 1, "7"}, {-7, 1, "-7"}, {2, 4, "1/2"}, {-5, 4, "-5/4"}, {5, -4, "-5/4"}, {1, 1 << 40, "1/1099511627776"}} {
		if got := rational.Format(rational.Frac(x.num, x.den)); got != x.want {
			t.Errorf("P2.1: Format of %d/%d: got %s", x.num, x.den, got)
		}
	}
}

// P2.1: texts of all three forms, also with superfluous zeros at the end of a decimal fraction, and with MaxText bytes.
func TestParse(t *testing.T) {
	zeros := strings.Repeat("0", api.MaxText)
	threes := strings.Repeat("3", api.MaxText)
	for _, s := range []string{
		"0", "1", "-1", "10", "-1.250", "1.250", "0.0", "0.000", "0.5", "-0.5", "0.05", "-0.050", "10.0", "12.34", "100.001", "2.718281828459045235360287",
		"1/2", "-1/2", "0.3", "4/15", "-5/4", "22/7", "7/10", "1/4294967296", "18446744073709551616/3", "-3/18446744073709551616",
		threes, "-" + threes[1:], "0." + threes[2:], "-0." + threes[3:], threes[3:] + ".50", threes[2:] + ".3", "0." + zeros[3:] + "5", "0." + zeros[2:], "1/1" + zeros[3:], "-1" + zeros[4:] + "/7", "1" + zeros[3:] + "/7",
	} {
		got, e := rational.Parse(s)
		if e != api.OK {
			t.Errorf("P2.1: Parse(%.20q), %d bytes: %v", s, len(s), e)
			continue
		}
		want, _ := new(big.Rat).SetString(s)
		expect(t, "P2.1: Parse", got, want)
	}
	if got := read(t, "-1.250"); rational.Format(got) != "-5/4" {
		t.Errorf("P2.1: Parse of -1.250: got %v", got)
	}
}

// P2.1: all other texts are errors.
func TestParseErrors(t *testing.T) {
	zeros := strings.Repeat("0", api.MaxText)
	threes := strings.Repeat("3", api.MaxText)
	for _, s := range []string{
		"", "-", "--1", "+1", " 1", "1 ", "1\n", "\t1", "a", "1a", "0x1", "1e3", "1_0", "1,5", "\u0661", "\uff11", "−1", "1\x00", "∞", "NaN",
		"-0", "-0.0", "-0.000", "00", "01", "-01", "01.5", "00.5", "-00.5",
		".", ".5", "-.5", "1.", "-1.", "1..5", "1.5.", "1.5.5", "1.-5", "1.+5", "1. 5", "1.a", "1.5a", "1.5e1",
		"/", "1/", "/2", "-/2", "1//2", "1/2/3", "1/0", "0/0", "0/1", "0/2", "-0/2", "3/1", "1/1", "-3/1", "2/4", "-2/4", "4/2", "6/9", "5/5", "01/2", "1/02", "1/-2", "-1/-2", "1/+2", "1 /2", "1/ 2", "1/a", "a/2", "1.5/2", "1/2.5", "1/2.",
		"10000000000000000000000/2", "6/18446744073709551616", threes + "/" + threes,
		threes + "3", "-" + threes, "0." + threes[1:], "1." + zeros[1:], "1/1" + zeros[2:], "-1/1" + zeros[3:], threes[1:] + ".3", zeros + "1",
	} {
		if a, e := rational.Parse(s); e != api.ErrSyntax || !none(a) {
			t.Errorf("P2.1: Parse(%.20q), %d bytes: got %.40v, %v", s, len(s), a, e)
		}
	}
}

// P2.1: among all short texts, exactly those are read that have one of the three forms.
func TestShortTexts(t *testing.T) {
	texts := []string{""}
	for range 7 {
		for _, s := range texts {
			got, e := rational.Parse(s)
			want, ok := reference(s)
			switch {
			case (e == api.OK) != ok, !ok && (e != api.ErrSyntax || !none(got)):
				t.Fatalf("P2.1: Parse(%q): got %v, %v", s, got, e)
			case ok:
				expect(t, "P2.1: Parse", got, want)
			}
		}
		longer := make([]string, 0, 7*len(texts))
		for _, s := range texts {
			for _, c := range "0126./-" {
				longer = append(longer, s+string(c))
			}
		}
		texts = longer
	}
}

// reference returns the number of a text in the sense of the chapter, if it can be read: what big.Rat reads is
// compared with the texts that the number has in the three forms.
func reference(s string) (*big.Rat, bool) {
	q, ok := new(big.Rat).SetString(s)
	if !ok || strings.HasPrefix(s, "-") && q.Sign() == 0 {
		return nil, false
	}
	if _, after, found := strings.Cut(s, "."); found {
		return q, after != "" && q.FloatString(len(after)) == s
	}
	return q, q.RatString() == s
}
