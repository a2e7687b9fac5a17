package decimal_test

import (
	"math/big"
	"strings"
	"testing"

	"setsquare/algebraic"
	"setsquare/api"
	"setsquare/decimal"
	"setsquare/integer"
	"setsquare/interval"
	"setsquare/number"
	"setsquare/rational"
	"setsquare/sign"
	"setsquare/specimen"
)

// P11.2: the texts are decimal fractions within half a unit of the last place of Format, and both have the same value.
func TestTexts(t *testing.T) {
	check := func(a api.Number, digits int) {
		whole, e := decimal.Format(a, digits)
		trimmed, e2 := decimal.Short(a, digits)
		if e != api.OK || e2 != api.OK || !isFraction(whole) || !isFraction(trimmed) {
			t.Fatalf("P11.2: the texts of %.600s with %d digits: %q, %v and %q, %v", show(a), digits, whole, e, trimmed, e2)
		}
		value, e := decimal.Parse(whole)
		same, e2 := decimal.Parse(trimmed)
		if e != api.OK || e2 != api.OK || rational.Cmp(value, same) != 0 || !strings.HasPrefix(whole, trimmed) {
			t.Fatalf("P11.2: the values of the texts of %.600s with %d digits: %q and %q", show(a), digits, whole, trimmed)
		}
		half := new(big.Rat).Quo(big.NewRat(1, 2), power(digits))
		low, high := new(big.Rat).Sub(bigRat(value), half), new(big.Rat).Add(bigRat(value), half)
		if !decimal.Within(a, whole) || !decimal.Within(a, trimmed) || compare(t, a, low) < 0 || compare(t, a, high) >= 0 {
			t.Fatalf("P11.2: the distance of %.600s and its texts %q and %q", show(a), whole, trimmed)
		}
	}
	specimen.Pairs(300, 3, func(s *source, a, b api.Number) {
		for _, digits := range []int{0, 1, 60, s.Below(61)} {
			check(a, digits)
			check(b, digits)
		}
	})
	for k := int64(-200); k <= 200; k++ {
		check(number.FromRat(rational.Frac(k, 40)), int(k+200)%4)
	}
}

// P11.2: Format of the value of a decimal fraction is this decimal fraction.
func TestFormatParse(t *testing.T) {
	s := source{Source: 7}
	check := func(text string) {
		_, behind, _ := strings.Cut(text, ".")
		value, e := decimal.Parse(text)
		if e != api.OK {
			t.Fatalf("P11.2: Parse(%q): %v", text, e)
		}
		// The value is the same over any tower.
		zero := times(rootOf(2), number.FromInt(0))
		for _, a := range []api.Number{number.FromRat(value), plus(number.FromRat(value), zero)} {
			if got, e := decimal.Format(a, len(behind)); e != api.OK || got != text {
				t.Fatalf("P11.2: Format of Parse(%q): %q, %v", text, got, e)
			}
		}
	}
	for _, text := range []string{"0", "0.0", "-1", "0.1", "-0.1", "100.00", "-100", "0." + strings.Repeat("0", 60), "-0." + strings.Repeat("0", 59) + "1", strings.Repeat("9", 400), "-" + strings.Repeat("9", 399), strings.Repeat("9", 339) + "." + strings.Repeat("9", 60), "-" + strings.Repeat("9", 338) + "." + strings.Repeat("0", 60)} {
		check(text)
	}
	for range 3000 {
		digits := make([]byte, 1+s.Below(80))
		for i := range digits {
			digits[i] = "0012345678999"[s.Below(13)]
		}
		text := strings.TrimLeft(string(digits[:len(digits)/4]), "0")
		if text == "" {
			text = "0"
		}
		if behind := digits[len(digits)/4:]; len(behind) > 0 && s.Below(5) > 0 {
			text += "." + string(behind)
		}
		if strings.Trim(text, "0.") != "" && s.Below(2) == 0 {
			text = "-" + text
		}
		check(text)
	}
}

// P11.2: rounding respects the order of numbers.
func TestOrder(t *testing.T) {
	check := func(a, b api.Number, digits int) {
		order, e := number.Cmp(a, b)
		if e != api.OK {
			t.Fatalf("no order of %.600s and %.600s: %v", show(a), show(b), e)
		}
		if order > 0 {
			a, b = b, a
		}
		for _, f := range []func(api.Number, int) (api.Int, api.Errno){decimal.Floor, decimal.Round} {
			x, _ := f(a, digits)
			y, _ := f(b, digits)
			if c := integer.Cmp(x, y); c > 0 || order == 0 && c != 0 {
				t.Fatalf("P11.2: the order of %.600s and %.600s with %d digits", show(a), show(b), digits)
			}
		}
	}
	specimen.Pairs(400, 3, func(s *source, a, b api.Number) {
		digits := s.Below(61)
		check(a, b, digits)
		check(a, plus(a, fraction(int64(s.Below(9)-4), digits)), digits)
		check(a, s.Variant(a, 3), digits)
	})
	for k := int64(-100); k < 100; k++ {
		check(number.FromRat(rational.Frac(k, 20)), number.FromRat(rational.Frac(k+1, 20)), int(k+100)%3)
	}
}

// T3: the interval of a decimal fraction and the enclosures in the tower and of the canonical form have common numbers.
func TestEnclosures(t *testing.T) {
	specimen.Pairs(200, 3, func(s *source, a, _ api.Number) {
		digits := s.Below(61)
		n, _ := decimal.Floor(a, digits)
		scale := integer.FromInt(1)
		for range digits {
			scale = integer.Mul(scale, integer.FromInt(10))
		}
		low, _ := rational.Make(n, scale)
		high, _ := rational.Make(integer.Add(n, integer.FromInt(1)), scale)
		shown := api.Interval{Low: low, High: high}
		canonical, e := algebraic.Enclose(algebraic.Of(a), 3*digits)
		if e != api.OK {
			t.Fatalf("T3: the enclosure of the form of %.600s: %v", show(a), e)
		}
		element := sign.Enclose(a.Radicands, a.Coefs, 3*digits)
		for _, pair := range [][2]api.Interval{{shown, canonical}, {shown, element}, {canonical, element}} {
			if _, ok := interval.Meet(pair[0], pair[1]); !ok {
				t.Fatalf("T3: the enclosures of %.600s with %d digits: %v and %v", show(a), digits, pair[0], pair[1])
			}
		}
	})
}
