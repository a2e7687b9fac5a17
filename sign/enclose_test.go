package sign_test

import (
	"math"
	"math/big"
	"testing"

	"setsquare/api"
	"setsquare/integer"
	"setsquare/interval"
	"setsquare/rational"
	"setsquare/sign"
	"setsquare/tower"
)

// tiny returns a number that is greater than the errors of reference values.
func tiny() *big.Float { return new(big.Float).SetMantExp(big.NewFloat(1), doubt) }

// checkEnclosure checks that an enclosure is valid, not too wide, and contains the value.
func checkEnclosure(t *testing.T, x scene, a []api.Rat, bits int) {
	t.Helper()
	got := sign.Enclose(x.tower, a, bits)
	if !interval.Valid(got) {
		t.Fatalf("P7.1: Enclose(%s, %d): %.900s: not valid", show(a), bits, x.show())
	}
	low, high, value := bigFloat(got.Low), bigFloat(got.High), x.roots.value(a)
	if low.Cmp(new(big.Float).Add(value, tiny())) > 0 || high.Cmp(new(big.Float).Sub(value, tiny())) < 0 {
		t.Fatalf("P7.1: Enclose(%s, %d): %.900s: from %.40g to %.40g, the value is %.40g", show(a), bits, x.show(), low, high, value)
	}
	unit, _ := integer.Pow(integer.FromInt(2), bits)
	most, _ := rational.Make(integer.FromInt(1), unit)
	if width := interval.Width(got); rational.Cmp(width, most) > 0 {
		t.Fatalf("P7.1: Enclose(%s, %d): %.900s: the width is %.40g", show(a), bits, x.show(), bigFloat(width))
	}
}

// someBits returns precisions: both limits, and numbers near multiples of 32.
func someBits() []int {
	return []int{0, 1, 2, 30, 31, 32, 33, 62, 63, 64, 65, 100, 127, 128, 500, 1022, 1023, sign.MaxBits}
}

// P7.1: enclosures contain the value, and are not too wide.
func TestEnclose(t *testing.T) {
	scenes(2500, 4, func(s *source, x scene) {
		for _, bits := range someBits() {
			if s.Below(3) == 0 {
				checkEnclosure(t, x, x.a, bits)
			}
		}
	})
}

// P7.1: great and small values, coefficients and radicands, and values that are 0 or near to it.
func TestEncloseTable(t *testing.T) {
	for _, row := range []struct{ tower, element string }{
		{"", "0"},
		{"", "-1/3"},
		{"", "1000000000000000000000000000000000000000000000000000000000000/7"},
		{"2", "0 1000000000000000000000000000000000000000000000000000000000000000000000000"},
		{"2", "1/3000000000000000000000000000000000000000000000 -1/1000000000000000000000000000000"},
		{"1/100000000000000000000000000000000000000000000000000", "0 10000000000000000000000000000000000000"},
		{"100000000000000000000000000000000000000000000000000000001", "-7 1"},
		{"4", "2 -1"},
		{"4", "2/3 -1/3"},
		{"4", "2 1"},
		{"9/4", "1/7 1"},
		{"2, 3 2", "1 1 -1 0"},
		{"2, 3 2", "1/7 1/7 -1/7 0"},
		{"2, 1414213562373097/1000000000000000 -1", "0 0 1000000 0"},
		{"2, -1414213562373/1000000000000 1, 0 0 1 0", "1 0 0 0 -1 1 1 1"},
		{"2, 665857 -470832", "0 0 1 0"},
		{"2, 665857 -470832", "0 0 665857 470832"},
	} {
		tw := towerOf(row.tower)
		values, ok := rootsOf(tw)
		if !ok {
			t.Fatalf("the tower [%s] is not real", row.tower)
		}
		for _, bits := range someBits() {
			checkEnclosure(t, scene{tw, values, nil, nil}, of(row.element), bits)
		}
	}
}

// P7.1: the ends of an enclosure have the value between them, exactly.
func TestEnds(t *testing.T) {
	scenes(400, 3, func(s *source, x scene) {
		for _, bits := range []int{0, 5, 40, 64, 200} {
			i := sign.Enclose(x.tower, x.a, bits)
			low := tower.Sub(x.tower, x.a, tower.FromRat(x.tower, i.Low))
			high := tower.Sub(x.tower, x.a, tower.FromRat(x.tower, i.High))
			if definition(x.tower, low) < 0 || definition(x.tower, high) > 0 {
				t.Fatalf("P7.1: Enclose(%d): %s: from %s to %s", bits, x.show(), rational.Format(i.Low), rational.Format(i.High))
			}
			if sign.Sign(x.tower, low) != definition(x.tower, low) || sign.Sign(x.tower, high) != definition(x.tower, high) {
				t.Fatalf("P7.1: Sign: %s, minus %s or %s", x.show(), rational.Format(i.Low), rational.Format(i.High))
			}
		}
	})
}

// P7.1: bits beyond the limits lead to zero intervals.
func TestEncloseErrors(t *testing.T) {
	for _, bits := range []int{-1, -2, -32, -64, math.MinInt, math.MinInt + 1, sign.MaxBits + 1, sign.MaxBits + 2, 1 << 16, 1 << 40, math.MaxInt - 1, math.MaxInt} {
		for _, row := range []struct{ tower, element string }{{"", "0"}, {"", "5"}, {"2", "1 1"}, {"4", "2 -1"}, {"2, 1 1", "1 2 3 4"}} {
			if got := sign.Enclose(towerOf(row.tower), of(row.element), bits); !isZeroInterval(got) {
				t.Errorf("P7.1: Enclose([%s], [%s], %d): %v", row.tower, row.element, bits, got)
			}
		}
	}
	if sign.MaxBits != 1024 {
		t.Errorf("P7.1: MaxBits is %d", sign.MaxBits)
	}
}

// isZeroInterval reports whether an interval is the zero value.
func isZeroInterval(i api.Interval) bool {
	for _, n := range []api.Int{i.Low.Num, i.Low.Den, i.High.Num, i.High.Den} {
		if n.Neg || len(n.Mag) > 0 {
			return false
		}
	}
	return true
}

// P7.1: floors of values of both signs, of integers in all forms, and of values near to them.
func TestFloorTable(t *testing.T) {
	for _, row := range []struct{ tower, element, floor string }{
		{"", "0", "0"},
		{"", "7", "7"},
		{"", "-7", "-7"},
		{"", "7/2", "3"},
		{"", "-7/2", "-4"},
		{"", "1/3", "0"},
		{"", "-1/1000000000000000000000000000000000", "-1"},
		{"", "2999999999999999999999999999999999/1000000000000000000000000000000000", "2"},
		{"2", "7 -5", "-1"},
		{"2", "-7 5", "0"},
		{"2", "3 -2", "0"},
		{"2", "0 1", "1"},
		{"2", "0 -1", "-2"},
		{"2", "5 0", "5"},
		{"2", "-5 0", "-5"},
		{"2", "1 1000000000000000000000000000000000000000000000", "1414213562373095048801688724209698078569671876"},
		{"2", "0 -1000000000000000000000000000000000000000000000", "-1414213562373095048801688724209698078569671876"},
		{"4", "2 1", "4"},
		{"4", "2 -1", "0"},
		{"4", "-2 -1", "-4"},
		{"4", "1/3 1/3", "1"},
		{"4", "-1/3 -1/3", "-1"},
		{"4", "1/3 1/3000000000000000000000000", "0"},
		{"4", "-1/3 -1/3000000000000000000000000", "-1"},
		{"9/4", "1/2 1", "2"},
		{"2, 3 2", "1 1 -1 0", "0"},
		{"2, 3 2", "-1 -1 1 0", "0"},
		{"2, 3 2", "7 1 -1 0", "6"},
		{"2, 3 2", "20/3 1/3 -1/3 0", "6"},
		{"2, 3 2", "22/3 1/3 -1/3 0", "7"},
		{"2, 3 2", "-22/3 1/3 -1/3 0", "-8"},
		{"2, 3 0", "0 1 1 0", "3"},
		{"2, 3 0", "0 -1 -1 0", "-4"},
		{"2, 1 1", "0 0 1 0", "1"},
		{"2, 1 1", "0 0 -1 0", "-2"},
		{"2, 3 0, 5 0 0 2", "0 1/3 1/3 0 -1/3 0 0 0", "0"},
		{"2, 3 0, 5 0 0 2", "-10 1/3 1/3 0 -1/3 0 0 0", "-10"},
	} {
		if got := integer.Format(sign.Floor(towerOf(row.tower), of(row.element))); got != row.floor {
			t.Errorf("P7.1: Floor([%s], [%s]): got %s, want %s", row.tower, row.element, got, row.floor)
		}
	}
}

// P7.1: the floor is at most the value, which is less than the floor plus 1.
func TestFloor(t *testing.T) {
	scenes(3000, 4, func(s *source, x scene) {
		floor := sign.Floor(x.tower, x.a)
		n, e := rational.Make(floor, integer.FromInt(1))
		if e != api.OK || !integer.Valid(floor) {
			t.Fatalf("P7.1: Floor: %s: %v", x.show(), floor)
		}
		rest := tower.Sub(x.tower, x.a, tower.FromRat(x.tower, n))
		above := tower.Sub(x.tower, rest, tower.FromRat(x.tower, rational.FromInt(1)))
		if x.roots.sign(rest) < 0 || x.roots.sign(above) >= 0 {
			t.Fatalf("P7.1: Floor: %s: %s, the value is %.40g", x.show(), integer.Format(floor), x.roots.value(x.a))
		}
	})
}
