package sign_test

import (
	"math"
	"math/big"
	"testing"

	"setsquare/api"
	"setsquare/integer"
	"setsquare/rational"
	"setsquare/sample"
	"setsquare/sign"
	"setsquare/tower"
)

// checkSign checks the sign of an element, of its opposite and of multiples, and the floors that follow for a value
// between -1 and 1.
func checkSign(t *testing.T, tw [][]api.Rat, a []api.Rat, want int) {
	t.Helper()
	third := tower.FromRat(tw, rational.Frac(1, 3))
	for k, n := range []int{
		sign.Sign(tw, a), -sign.Sign(tw, tower.Neg(tw, a)), sign.Sign(tw, tower.Mul(tw, a, third)),
		sign.Cmp(tw, a, tower.Sub(tw, a, a)), sign.Cmp(tw, tower.Add(tw, a, third), third),
	} {
		if n != want {
			t.Fatalf("P7.1: Sign(%.900s), way %d: got %d, want %d", show(a), k, n, want)
		}
	}
	opposite := tower.Neg(tw, a)
	if n, _ := integer.Int64(sign.Floor(tw, a)); n != int64(min(want, 0)) {
		t.Fatalf("P7.1: Floor(%.900s): %d", show(a), n)
	}
	if n, _ := integer.Int64(sign.Floor(tw, opposite)); n != int64(min(-want, 0)) {
		t.Fatalf("P7.1: Floor(%.900s): %d", show(opposite), n)
	}
}

// P7.1: the powers of 1 - s, where s is the square root of 2, are as near to 0 as their coefficients are long.
func TestPowers(t *testing.T) {
	for _, tw := range [][][]api.Rat{towerOf("2"), towerOf("2, 3 0"), towerOf("2, 1 1, 5 0 0 0")} {
		a, b := power(tw, raised(tw, of("1 -1")), 10), tower.FromRat(tw, rational.FromInt(1))
		for range 60 {
			b = tower.Mul(tw, b, a)
			checkSign(t, tw, b, 1)
			checkSign(t, tw, tower.Mul(tw, b, raised(tw, of("1 -1"))), -1)
		}
	}
}

// extreme returns a unit of the tower of 2 and 3, or of 2, 3 and 5, whose value is about e^(1 - n) to the power of some
// number, where n is the number of coefficients, while all its conjugates are about e to this power. So it is much
// nearer to 0 than the coefficients are long.
func extreme(tw [][]api.Rat, exponent float64) []api.Rat {
	a := tower.FromRat(tw, rational.FromInt(1))
	for _, unit := range []struct {
		place int
		coefs [2]int64
		den   int64
		value float64 // the value of its conjugate
	}{
		{1, [2]int64{-1, 1}, 1, 1 + math.Sqrt2},
		{2, [2]int64{2, -1}, 1, 2 + math.Sqrt(3)},
		{3, [2]int64{5, -2}, 1, 5 + math.Sqrt(24)},
		{4, [2]int64{-1, 1}, 2, (1 + math.Sqrt(5)) / 2},
		{5, [2]int64{-3, 1}, 1, 3 + math.Sqrt(10)},
		{6, [2]int64{4, -1}, 1, 4 + math.Sqrt(15)},
		{7, [2]int64{11, -2}, 1, 11 + math.Sqrt(120)},
	} {
		if unit.place < len(a) {
			u := nought(len(a))
			u[0], u[unit.place] = rational.Frac(unit.coefs[0], unit.den), rational.Frac(unit.coefs[1], unit.den)
			a = tower.Mul(tw, a, power(tw, u, int(math.Round(exponent/math.Log(unit.value)))))
		}
	}
	return a
}

// P7.1: values that are much nearer to 0 than the coefficients are long.
func TestExtreme(t *testing.T) {
	for _, tw := range [][][]api.Rat{towerOf("2, 3 0"), towerOf("2, 3 0, 5 0 0 0"), towerOf("2, 3 0, 5 0 0 0, 7 1 0 0 0 0 0 0")} {
		for _, exponent := range []float64{2, 5, 10, 15, 20, 30, 50, 70, 100} {
			a := extreme(tw, exponent)
			checkSign(t, tw, a, 1)
			checkSign(t, tw, tower.Mul(tw, a, raised(tw, of("2 -3/2"))), -1)
			if len(tw) > 3 {
				b := tower.Mul(tw, a, of("1 1 0 0 0 0 0 0 -1 0 0 0 0 0 0 1/4"))
				checkSign(t, tw, b, definition(tw, b))
			}
		}
	}
}

// P7.1: elements minus rational numbers that are as near to them as one likes.
func TestApproximations(t *testing.T) {
	scenes(500, 4, func(s *source, x scene) {
		value := x.roots.value(x.a)
		for _, bits := range []int{1, 31, 32, 33, 63, 64, 65, 100, 128, 129, 300, 1000, 1800} {
			unit, _ := integer.Pow(integer.FromInt(2), bits)
			scaled := new(big.Float).SetPrec(digits).SetMantExp(value, bits)
			n, _ := scaled.Int(nil)
			for k := int64(-2); k <= 2; k++ {
				num, _ := integer.Parse(new(big.Int).Add(n, big.NewInt(k)).String())
				near, _ := rational.Make(num, unit)
				a := tower.Sub(x.tower, x.a, tower.FromRat(x.tower, near))
				if got, want := sign.Sign(x.tower, a), x.roots.sign(a); got != want {
					t.Fatalf("P7.1: Sign: %s, minus %s: got %d, want %d", x.show(), rational.Format(near), got, want)
				}
			}
		}
	})
}

// P7.1: elements whose value is 0 although some of their coefficients are not, and those that differ from them by little.
func TestZeroValues(t *testing.T) {
	small := sample.Long(1, 0, 1, 84)
	cases := 0
	scenes(1500, 4, func(s *source, x scene) {
		// The square root of the square of a minus the absolute value of a, times an element.
		square := tower.Mul(x.tower, x.a, x.a)
		n := x.roots.sign(x.a)
		if n == 0 {
			return
		}
		tw := append(cloneTower(x.tower), square)
		zero := append(clone(x.a), nought(len(x.a))...)
		zero[len(x.a)] = rational.FromInt(int64(-n))
		factor := s.Element(len(zero))
		for _, a := range [][]api.Rat{zero, tower.Mul(tw, zero, factor)} {
			if tower.Zero(a) {
				continue
			}
			cases++
			checkSign(t, tw, a, 0)
			for k := int64(-1); k <= 1; k += 2 {
				by := tower.FromRat(tw, rational.Mul(small, rational.FromInt(k)))
				if got := sign.Sign(tw, tower.Add(tw, a, by)); got != int(k) {
					t.Fatalf("P7.1: Sign(%s plus a small number): %s: got %d, want %d", show(a), x.show(), got, k)
				}
			}
			if sign.Real(append(cloneTower(tw), a)) {
				t.Fatalf("P7.1: Real(%s) with the further radicand %s", x.show(), show(a))
			}
		}
	})
	if cases < 1000 {
		t.Errorf("the scenes have too few cases: %d", cases)
	}
}
