package algebraic_test

import (
	"strings"
	"testing"

	"setsquare/algebraic"
	"setsquare/api"
	"setsquare/integer"
	"setsquare/polynomial"
	"setsquare/rational"
	"setsquare/sample"
	"setsquare/specimen"
)

// expectText checks that a valid form has a text, and Parse the form of this text.
func expectText(t *testing.T, a api.Algebraic, text string) {
	t.Helper()
	if got := algebraic.Format(a); got != text {
		t.Errorf("P10.1: Format(%.600s): %.600s, want %.600s", show(a), got, text)
	}
	if got, e := algebraic.Parse(text); e != api.OK || !algebraic.Same(got, a) {
		t.Errorf("P10.1: Parse(%.600s): %.600s, %v", text, show(got), e)
	}
}

// expectSyntax checks that a text is not that of a valid form.
func expectSyntax(t *testing.T, text string) {
	t.Helper()
	if got, e := algebraic.Parse(text); e != api.ErrSyntax || len(got.Poly) != 0 || got.Root != 0 {
		t.Errorf("P10.1: Parse(%.300q): %.300s, %v", text, show(got), e)
	}
}

// P10.1: the texts of valid forms.
func TestFormat(t *testing.T) {
	for _, a := range valid() {
		expectText(t, a, "algebraic "+show(a))
	}
	specimen.Pairs(200, 3, func(_ *source, a, _ api.Number) {
		f := algebraic.Of(a)
		expectText(t, f, "algebraic "+show(f))
	})
	expectText(t, form("-2 0 1", 1), "algebraic [-2 0 1] 1")
	expectText(t, form("-3 4", 0), "algebraic [-3 4] 0")
	expectText(t, form("0 1", 0), "algebraic [0 1] 0")
	expectText(t, form("576 0 -960 0 352 0 -40 0 1", 7), "algebraic [576 0 -960 0 352 0 -40 0 1] 7")
}

// P10.1: forms that are not valid have no text, and what would be their text cannot be read.
func TestInvalidText(t *testing.T) {
	for _, a := range invalid() {
		if got := algebraic.Format(a); got != "" {
			t.Errorf("P10.1: Format(%v): %q", a, got)
		}
		if b, e := algebraic.Parse("algebraic " + show(a)); !algebraic.Valid(normal(a)) && (e != api.ErrSyntax || len(b.Poly) != 0 || b.Root != 0) {
			t.Errorf("P10.1: Parse of the text of %v: %v, %v", a, b, e)
		}
	}
}

// normal returns the form with all coefficients in normal form: the one that show writes.
func normal(a api.Algebraic) api.Algebraic {
	b := api.Algebraic{Root: a.Root}
	for _, n := range a.Poly {
		b.Poly = append(b.Poly, integer.Norm(n))
	}
	return b
}

// P10.1: texts that are not the text of a valid form.
func TestParseErrors(t *testing.T) {
	for _, text := range []string{
		"", " ", "algebraic", "algebraic ", "algebraic [", "algebraic []", "algebraic [] ", "algebraic [] 0", "algebraic [ ] 0", "[-2 0 1] 1", "-2 0 1", "-2 0 1] 1", "algebraic 1", "algebraic [-2 0 1]", "algebraic [-2 0 1] ",
		// Spaces too many or too few, and other white space.
		" algebraic [-2 0 1] 1", "algebraic [-2 0 1] 1 ", "algebraic  [-2 0 1] 1", "algebraic[-2 0 1] 1", "algebraic [ -2 0 1] 1", "algebraic [-2 0 1 ] 1", "algebraic [-2  0 1] 1", "algebraic [-2 0 1]1", "algebraic [-2 0 1]  1", "algebraic [-2 0 1] 1\n", "algebraic\t[-2 0 1] 1", "algebraic [-2\t0 1] 1", "algebraic [-2 0 1]\t1", "\nalgebraic [-2 0 1] 1", "algebraic [-2 0\u00a01] 1", "algebraic [-201] 1", "algebraic [- 2 0 1] 1",
		// Signs, zeros, and other characters.
		"algebraic [+2 0 1] 0", "algebraic [-2 +0 1] 1", "algebraic [-2 0 +1] 1", "algebraic [-2 0 1] +1", "algebraic [-2 -0 1] 1", "algebraic [-2 0 1] -0", "algebraic [-2 0 1] -1", "algebraic [--2 0 1] 1", "algebraic [-2 0 1] --1", "algebraic [-02 0 1] 1", "algebraic [-2 00 1] 1", "algebraic [-2 0 01] 1", "algebraic [-2 0 1] 01", "algebraic [-2 0 1] 00", "algebraic [-2 0 1] 0x1", "algebraic [-2 0 1] 1_0", "algebraic [-2 0 1_0] 1", "algebraic [-2. 0 1] 1", "algebraic [-2 0 1] 1.0", "algebraic [-2/1 0 1] 1", "algebraic [-1/2 0 1] 1", "algebraic [a 0 1] 1", "algebraic [-2 0 1] a", "algebraic [-2, 0, 1] 1", "algebraic [-2,0,1] 1", "algebraic [-2 - 1] 1", "algebraic [-2 0 1] -", "algebraic [\u0661 1] 0", "algebraic [-2 0 1] \u0661", "algebraic [-2 0 1] 1\x00",
		// Brackets, words, and more than one form.
		"algebraic (-2 0 1) 1", "algebraic -2 0 1] 1", "algebraic [-2 0 1 1", "algebraic [[-2 0 1] 1", "algebraic [-2 0 1]] 1", "algebraic [-2 0 1] [1]", "algebraic [-2 0 1] 1]", "algebraic [-2 0] 1] 1", "algebraic [-2] [0 1] 1", "Algebraic [-2 0 1] 1", "ALGEBRAIC [-2 0 1] 1", "algebra [-2 0 1] 1", "algebraic algebraic [-2 0 1] 1", "algebraic [-2 0 1] 1 1", "algebraic [-2 0 1] 1algebraic [-2 0 1] 1", "algebraic [-2 0 1] 1 algebraic [-2 0 1] 1", "number [-2 0 1] 1",
		// A Root that does not fit.
		"algebraic [-2 0 1] 2", "algebraic [-2 0 1] 10", "algebraic [0 1] 1", "algebraic [2 -2 -1 1] 3", "algebraic [-2 0 0 1] 1", "algebraic [1 0 1] 0", "algebraic [-2 0 1] 4294967296", "algebraic [-2 0 1] 4294967297", "algebraic [-2 0 1] 18446744073709551616", "algebraic [-2 0 1] 18446744073709551617", "algebraic [-2 0 1] 99999999999999999999999999",
		// Forms that are not valid.
		"algebraic [1] 0", "algebraic [0] 0", "algebraic [0 0] 0", "algebraic [-2 0 1 0] 1", "algebraic [2 0 -1] 1", "algebraic [-4 0 2] 1", "algebraic [1 -2 1] 0", "algebraic [0 0 1] 0", "algebraic [-1 1 -2 2 -1 1] 0",
	} {
		expectSyntax(t, text)
	}
}

// P10.1: every text of a few characters, and every text that differs from that of a form by one character, is that of a
// form, or an error.
func TestParseAll(t *testing.T) {
	check := func(text string) {
		a, e := algebraic.Parse(text)
		if e != api.OK {
			expectSyntax(t, text)
		} else if algebraic.Format(a) != text {
			t.Errorf("P10.1: Parse(%q): %s", text, show(a))
		}
	}
	for _, text := range []string{"algebraic [-2 0 1] 1", "algebraic [-3 4] 0", "algebraic [1 0 -10 0 1] 3"} {
		for k := range len(text) + 1 {
			for _, c := range " -+0123[]a\n" {
				check(text[:k] + string(c) + text[k:])
				if k < len(text) {
					check(text[:k] + string(c) + text[k+1:])
				}
			}
			if k < len(text) {
				check(text[:k] + text[k+1:])
			}
		}
	}
	count := 0
	for n := range 7 * 7 * 7 * 7 * 7 {
		inner := ""
		for range 5 {
			inner += string("012- []"[n%7])
			n /= 7
		}
		text := "algebraic [" + inner + "] 0"
		check(text)
		if _, e := algebraic.Parse(text); e == api.OK {
			count++
		}
	}
	if count < 30 {
		t.Errorf("P10.1: %d texts can be read", count)
	}
}

// P10.1: neither the texts nor their coefficients are limited.
func TestLongText(t *testing.T) {
	for _, digits := range []int{api.MaxText, api.MaxText + 1, api.MaxText + 4097} {
		// The digits have zeros in the places where parts may begin.
		number := strings.Repeat("1234567890000000000000000000000000001", digits/37+1)[:digits-1] + "1"
		for _, text := range []string{"algebraic [" + number + " 2] 0", "algebraic [-" + number + " 2] 0", "algebraic [1 " + number + "] 0"} {
			a, e := algebraic.Parse(text)
			if e != api.OK || algebraic.Format(a) != text {
				t.Errorf("P10.1: Parse of a text with %d digits: %v", digits, e)
			}
		}
		for _, wrong := range []string{"0" + number, "-0" + number, "+" + number, "--" + number, number + "x", number[:30] + "-" + number[30:], number[:digits-20] + "-" + number[digits-20:], number[:digits-5000] + "_" + number[digits-5000:], number + "-", number + ".", "-"} {
			expectSyntax(t, "algebraic ["+wrong+" 2] 0")
			expectSyntax(t, "algebraic [-1 "+wrong+"] 0")
		}
	}
	f := sample.Of("0 1")
	for k := range int64(24) {
		c := sample.Long(k+1, 400, 1, 0)
		f = polynomial.Mul(f, []api.Rat{rational.Neg(rational.Mul(c, c)), rational.FromInt(0), rational.FromInt(1)})
	}
	a := formOf(f, 24)
	if text := algebraic.Format(a); len(text) <= api.MaxText {
		t.Errorf("a text of %d bytes", len(text))
	}
	expectText(t, a, "algebraic "+show(a))
}
