package decimal_test

import (
	"strings"
	"testing"

	"setsquare/api"
	"setsquare/decimal"
	"setsquare/integer"
	"setsquare/number"
	"setsquare/rational"
	"setsquare/sample"
	"setsquare/specimen"
)

// P11.1: the examples of the chapter.
func TestExamples(t *testing.T) {
	for _, row := range []struct {
		a              api.Number
		digits         int
		whole, trimmed string
	}{
		{rootOf(2), 3, "1.414", "1.414"},
		{rat("-1/2"), 0, "0", "0"},
		{rat("5/4"), 1, "1.3", "1.3"},
		{rat("5/4"), 4, "1.2500", "1.25"},
	} {
		expectText(t, "Format", decimal.Format, row.a, row.digits, row.whole, row.whole)
		expectText(t, "Short", decimal.Short, row.a, row.digits, row.whole, row.trimmed)
	}
}

// P11.1: rational numbers and numbers with one, two and three radicands, of either sign and 0; scaled values that are
// integers, or lie half way between two of them; zeros at the end, and rounded values that are 0.
func TestTable(t *testing.T) {
	for _, row := range []struct {
		radicands, coefs           string
		digits                     int
		floor, round, whole, short string
	}{
		{"", "0", 0, "0", "0", "0", "0"},
		{"", "0", 1, "0", "0", "0.0", "0"},
		{"", "0", 60, "0", "0", "0." + strings.Repeat("0", 60), "0"},
		{"", "1", 60, tens(60), tens(60), "1." + strings.Repeat("0", 60), "1"},
		{"", "10", 0, "10", "10", "10", "10"},
		{"", "-100", 0, "-100", "-100", "-100", "-100"},
		{"", "100", 2, "10000", "10000", "100.00", "100"},
		{"", "-100", 1, "-1000", "-1000", "-100.0", "-100"},
		{"", "10.01", 3, "10010", "10010", "10.010", "10.01"},
		{"", "-0.5", 3, "-500", "-500", "-0.500", "-0.5"},
		{"", "1/2", 0, "0", "1", "1", "1"},
		{"", "-1/2", 0, "-1", "0", "0", "0"},
		{"", "3/2", 0, "1", "2", "2", "2"},
		{"", "-3/2", 0, "-2", "-1", "-1", "-1"},
		{"", "5/4", 1, "12", "13", "1.3", "1.3"},
		{"", "-5/4", 1, "-13", "-12", "-1.2", "-1.2"},
		{"", "1/20", 1, "0", "1", "0.1", "0.1"},
		{"", "-1/20", 1, "-1", "0", "0.0", "0"},
		{"", "0.04", 1, "0", "0", "0.0", "0"},
		{"", "-0.04", 1, "-1", "0", "0.0", "0"},
		{"", "-0.051", 1, "-1", "-1", "-0.1", "-0.1"},
		{"", "0.96", 1, "9", "10", "1.0", "1"},
		{"", "-0.96", 1, "-10", "-10", "-1.0", "-1"},
		{"", "9.95", 1, "99", "100", "10.0", "10"},
		{"", "-1/3", 0, "-1", "0", "0", "0"},
		{"", "2/3", 0, "0", "1", "1", "1"},
		{"", "-2/3", 5, "-66667", "-66667", "-0.66667", "-0.66667"},
		{"", "1/3", 60, strings.Repeat("3", 60), strings.Repeat("3", 60), "0." + strings.Repeat("3", 60), "0." + strings.Repeat("3", 60)},
		{"2", "0 1", 0, "1", "1", "1", "1"},
		{"2", "0 -1", 0, "-2", "-1", "-1", "-1"},
		{"2", "0 1", 3, "1414", "1414", "1.414", "1.414"},
		{"2", "0 -1", 3, "-1415", "-1414", "-1.414", "-1.414"},
		{"2", "0 1", 60, "1414213562373095048801688724209698078569671875376948073176679", "1414213562373095048801688724209698078569671875376948073176680", "1.414213562373095048801688724209698078569671875376948073176680", "1.41421356237309504880168872420969807856967187537694807317668"},
		{"2", "0 -0.0001", 3, "-1", "0", "0.000", "0"},
		{"2", "0 0.0001", 3, "0", "0", "0.000", "0"},
		{"2", "7 0", 2, "700", "700", "7.00", "7"},
		{"2", "-1/2 0", 0, "-1", "0", "0", "0"},
		{"2", "0 0", 1, "0", "0", "0.0", "0"},
		{"2, 3 0", "0 0 0 0", 3, "0", "0", "0.000", "0"},
		{"2, 3 0", "0 1 1 0", 5, "314626", "314626", "3.14626", "3.14626"},
		{"2, 3 0", "0 -1 1 0", 2, "31", "32", "0.32", "0.32"},
		{"2, 3 0", "0 1 -1 0", 2, "-32", "-32", "-0.32", "-0.32"},
		{"2, 3 0", "0 1 -1 0", 0, "-1", "0", "0", "0"},
		{"2, 1 1", "0 0 1 0", 4, "15537", "15538", "1.5538", "1.5538"},
		{"2, 3 0, 5 0 0 0", "0 1 1 0 1 0 0 0", 1, "53", "54", "5.4", "5.4"},
		{"2, 3 0, 5 0 0 0", "0 1 1 0 1 0 0 0", 7, "53823323", "53823323", "5.3823323", "5.3823323"},
		{"2, 3 0, 5 0 0 0", "1/3 0 0 0 0 0 0 -1", 1, "-52", "-51", "-5.1", "-5.1"},
		{"2, 3 0, 5 0 0 0", "-5/4 0 0 0 0 0 0 0", 1, "-13", "-12", "-1.2", "-1.2"},
		{"2, 1 1, 5 0 0 0", "0 0 0 0 0 0 0 0", 60, "0", "0", "0." + strings.Repeat("0", 60), "0"},
	} {
		a := numberOf(row.radicands, row.coefs)
		if n, e := decimal.Floor(a, row.digits); e != api.OK || integer.Format(n) != row.floor {
			t.Errorf("P11.1: Floor(%s, %d): %v, %v, want %s", show(a), row.digits, n, e, row.floor)
		}
		if n, e := decimal.Round(a, row.digits); e != api.OK || integer.Format(n) != row.round {
			t.Errorf("P11.1: Round(%s, %d): %v, %v, want %s", show(a), row.digits, n, e, row.round)
		}
		expectText(t, "Format", decimal.Format, a, row.digits, row.whole, row.whole)
		expectText(t, "Short", decimal.Short, a, row.digits, row.whole, row.short)
	}
}

// P11.1: all numbers k / 40 near to 0, for few digits.
func TestSmall(t *testing.T) {
	for k := int64(-500); k <= 500; k++ {
		for digits := range 4 {
			expect(t, number.FromRat(rational.Frac(k, 40)), digits)
			expect(t, plus(fraction(k, 2), rootsOf(2)), digits)
		}
	}
}

// P11.1: numbers of all kinds.
func TestNumbers(t *testing.T) {
	heights := map[int]int{}
	specimen.Pairs(300, 3, func(s *source, a, b api.Number) {
		for _, x := range []api.Number{a, b, number.Neg(a)} {
			for _, digits := range []int{0, 1, 60, s.Below(61)} {
				expect(t, x, digits)
			}
			if _, ok := exact(x); !ok {
				heights[len(x.Radicands)]++
			} else {
				heights[0]++
			}
		}
	})
	if min(heights[0], heights[1], heights[2], heights[3]) < 50 {
		t.Errorf("the samples have too few cases: %v", heights)
	}
}

// P11.1: scaled values that are integers or lie half way between two of them, and others that lie very near to those.
func TestNear(t *testing.T) {
	for _, digits := range []int{0, 1, 2, 59, 60} {
		for _, halves := range []int64{-1000, -5, -4, -3, -2, -1, 0, 1, 2, 3, 4, 5, 999, 2000} {
			a := times(fraction(halves, digits), rat("1/2"))
			expect(t, a, digits)
			expectNear(t, a, digits, halves)
			for k, x := range tiny() {
				less, greater := plus(a, number.Neg(x)), plus(a, x)
				expectNear(t, less, digits, halves-1)
				expectNear(t, greater, digits, halves)
				if digits%2 == 0 && k%2 == 0 {
					expect(t, less, digits)
					expect(t, greater, digits)
				}
			}
		}
	}
}

// expectNear checks Floor and Round for a scaled value, twice of which is not less than halves and less than halves + 1.
func expectNear(t *testing.T, a api.Number, digits int, halves int64) {
	t.Helper()
	n, e := decimal.Floor(a, digits)
	// Shifts round down.
	if e != api.OK || integer.Cmp(n, integer.FromInt(halves>>1)) != 0 {
		t.Fatalf("P11.1: Floor(%.600s, %d): %v, %v, want %d", show(a), digits, n, e, halves>>1)
	}
	n, e = decimal.Round(a, digits)
	if e != api.OK || integer.Cmp(n, integer.FromInt((halves+1)>>1)) != 0 {
		t.Fatalf("P11.1: Round(%.600s, %d): %v, %v, want %d", show(a), digits, n, e, (halves+1)>>1)
	}
}

// P11.1: the longest texts, and those that are too long.
func TestLengths(t *testing.T) {
	// The greatest numbers with 400 digits, and the least ones with 399 and a minus sign; with 60 digits, 61 of the bytes
	// are behind the last digit before the point.
	for _, row := range []struct{ before, digits int }{{400, 0}, {398, 1}, {339, 60}, {340, 59}} {
		unit, end := fraction(1, row.digits), rat(tens(row.before))
		least := plus(unit, number.Neg(rat(tens(row.before-1))))
		half := times(unit, rat("1/2"))
		fits := []api.Number{plus(end, number.Neg(unit)), rat(tens(row.before - 1)), least, plus(least, number.Neg(half))}
		long := []api.Number{end, plus(end, number.Neg(half)), plus(least, number.Neg(unit)), rat(tens(row.before + 1)), number.Neg(end)}
		for _, x := range tiny() {
			fits = append(fits, plus(end, number.Neg(half), number.Neg(x)), plus(least, x))
			long = append(long, plus(end, x), plus(least, number.Neg(half), number.Neg(x)))
		}
		fits = append(fits, times(rat(tens(row.before-1)), rootOf(2)), times(rat("-"+tens(row.before-2)), rootsOf(2, 3)))
		long = append(long, times(rat(tens(row.before)), rootOf(2)), times(rat("-"+tens(row.before-1)), rootsOf(2, 3)))
		for _, a := range fits {
			expect(t, a, row.digits)
			if s, e := decimal.Format(a, row.digits); len(s) != 400 || e != api.OK {
				t.Errorf("P11.1: Format(%.600s, %d): %s, %v", show(a), row.digits, s, e)
			}
		}
		for _, a := range long {
			expect(t, a, row.digits)
			expectError(t, a, row.digits, api.ErrTooLarge)
		}
	}
	// Short is an error for each number whose text is too long, although the short text would not be.
	expectError(t, rat(tens(339)), 60, api.ErrTooLarge)
	expectError(t, rat("-"+tens(338)), 60, api.ErrTooLarge)
	expectError(t, rat(tens(398)), 1, api.ErrTooLarge)
	for _, n := range []int{500, 5000, 50000} {
		expectError(t, times(rat("-"+tens(n)+"/7"), rootOf(3)), 60, api.ErrTooLarge)
	}
}

// expectError checks that Format and Short return an error.
func expectError(t *testing.T, a api.Number, digits int, want api.Errno) {
	t.Helper()
	if s, e := decimal.Format(a, digits); s != "" || e != want {
		t.Errorf("P11.1: Format(%.600s, %d): %s, %v, want %v", show(a), digits, s, e, want)
	}
	if s, e := decimal.Short(a, digits); s != "" || e != want {
		t.Errorf("P11.1: Short(%.600s, %d): %s, %v, want %v", show(a), digits, s, e, want)
	}
}

// P11.1: digits that are out of range; this error comes before that of a long text.
func TestOutside(t *testing.T) {
	for _, a := range []api.Number{number.FromInt(0), rat("-7/2"), rootOf(2), rootsOf(2, 3, 5), rat(tens(500))} {
		for _, digits := range outside() {
			expectError(t, a, digits, api.ErrInvalid)
			if n, e := decimal.Floor(a, digits); e != api.ErrInvalid || n.Neg || len(n.Mag) != 0 {
				t.Errorf("P11.1: Floor(%s, %d): %v, %v", show(a), digits, n, e)
			}
			if n, e := decimal.Round(a, digits); e != api.ErrInvalid || n.Neg || len(n.Mag) != 0 {
				t.Errorf("P11.1: Round(%s, %d): %v, %v", show(a), digits, n, e)
			}
		}
		for _, digits := range []int{0, decimal.MaxDigits} {
			expect(t, a, digits)
		}
	}
	if decimal.MaxDigits != 60 {
		t.Errorf("P11.1: MaxDigits is %d", decimal.MaxDigits)
	}
}

// P11.1: numbers with many radicands, also more than MaxHeight.
func TestHigh(t *testing.T) {
	a := rootsOf(2, 3, 5, 7, 11, 13, 17, 19)
	high := append(specimen.Clone(a).Radicands, append(sample.Of("23"), sample.Zeros(255)...))
	coefs := sample.Zeros(512)
	coefs[0], coefs[1], coefs[256] = rational.Frac(-1, 7), rational.FromInt(1), rational.FromInt(-1)
	b := api.Number{Radicands: high, Coefs: coefs}
	nested := number.FromInt(0)
	for range 8 {
		nested = specimen.Must(number.Sqrt(plus(number.FromInt(3), nested)))
	}
	for _, x := range []api.Number{a, b, nested} {
		for _, digits := range []int{0, 7, 60} {
			expect(t, x, digits)
			expect(t, number.Neg(x), digits)
			s, _ := decimal.Format(x, digits)
			expectWithin(t, x, s)
			expectWithin(t, x, s+"5")
		}
	}
}
