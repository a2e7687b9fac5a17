package integer_test

import (
	"math"
	"math/big"
	"slices"
	"strings"
	"testing"

	"setsquare/api"
	"setsquare/integer"
)

// pairs calls a function with many pairs of integers: all pairs of short critical ones, and some long ones.
func pairs(f func(a, b api.Int)) {
	var short []api.Int
	for _, mag := range [][]uint32{nil, {1}, {2}, {6}, {math.MaxUint32}, {0, 1}, {1, 1}, {math.MaxUint32, math.MaxUint32}, {0, 0, 1}, {0, 0, 1 << 31}, {math.MaxUint32, 1 << 31}, {0, math.MaxUint32 - 1, 1 << 31}} {
		short = append(short, api.Int{Mag: mag})
		if len(mag) > 0 {
			short = append(short, api.Int{Neg: true, Mag: mag})
		}
	}
	for _, a := range short {
		for _, b := range short {
			f(a, b)
		}
	}
	s := source(1)
	for range 6000 {
		f(s.integer(8), s.integer(6))
	}
	for range 60 {
		f(s.integer(400), s.integer(400))
		f(s.integer(900), s.integer(150))
	}
}

// P1.1: sums, differences, products and comparisons, for integers of all forms.
func TestRing(t *testing.T) {
	pairs(func(a, b api.Int) {
		x, y := number(a), number(b)
		for _, p := range [][2]api.Int{{a, b}, {loose(a), b}, {a, loose(b)}, {loose(a), loose(b)}} {
			expect(t, "P1.1: Add", integer.Add(p[0], p[1]), new(big.Int).Add(x, y))
			expect(t, "P1.1: Sub", integer.Sub(p[0], p[1]), new(big.Int).Sub(x, y))
			expect(t, "P1.1: Mul", integer.Mul(p[0], p[1]), new(big.Int).Mul(x, y))
			expect(t, "P1.1: Neg", integer.Neg(p[0]), new(big.Int).Neg(x))
			expect(t, "P1.1: Norm", integer.Norm(p[0]), x)
			if got := integer.Cmp(p[0], p[1]); got != x.Cmp(y) {
				t.Fatalf("P1.1: Cmp(%v, %v): got %d", x, y, got)
			}
			if got := integer.Sign(p[0]); got != x.Sign() {
				t.Fatalf("P1.1: Sign(%v): got %d", x, got)
			}
			if got := integer.Bits(p[0]); got != x.BitLen() {
				t.Fatalf("P1.1: Bits(%v): got %d", x, got)
			}
		}
	})
}

// P1.1: the quotient times b plus the remainder is a, and the remainder is 0 or between 0 and b.
func TestDivMod(t *testing.T) {
	pairs(func(a, b api.Int) {
		for _, p := range [][2]api.Int{{a, b}, {loose(a), loose(b)}} {
			q, r, e := integer.DivMod(p[0], p[1])
			x, y := number(a), number(b)
			if y.Sign() == 0 {
				if e != api.ErrZero {
					t.Fatalf("P1.1: DivMod(%v, 0): %v", x, e)
				}
				zero(t, "P1.1: DivMod", q)
				zero(t, "P1.1: DivMod", r)
				continue
			}
			rest := number(r)
			if e != api.OK || !normal(q) || !normal(r) || rest.CmpAbs(y) >= 0 || rest.Sign() != 0 && rest.Sign() != y.Sign() {
				t.Fatalf("P1.1: DivMod(%v, %v): got %v, %v, %v", x, y, q, r, e)
			}
			if z := new(big.Int).Mul(number(q), y); z.Add(z, rest).Cmp(x) != 0 {
				t.Fatalf("P1.1: DivMod(%v, %v): got %v, %v", x, y, q, r)
			}
		}
	})
}

// P1.1: quotients of a product plus a small number, where estimates of words are too great.
func TestDivModNearProducts(t *testing.T) {
	s := source(2)
	one := integer.FromInt(1)
	for range 3000 {
		b, q := s.integer(5), s.integer(5)
		if integer.Sign(b) <= 0 {
			continue
		}
		for _, r := range []api.Int{{}, integer.Sub(b, one)} {
			quotient, rest, e := integer.DivMod(integer.Add(integer.Mul(q, b), r), b)
			if e != api.OK || !same(quotient, q) || !same(rest, r) {
				t.Fatalf("P1.1: DivMod of %v times %v plus %v: got %v, %v", q, b, r, quotient, rest)
			}
		}
	}
}

func TestDivModExamples(t *testing.T) {
	for _, x := range [][4]int64{{-7, 2, -4, 1}, {7, -2, -4, -1}, {7, 2, 3, 1}, {-7, -2, 3, -1}, {-8, 2, -4, 0}, {0, -3, 0, 0}, {1, -3, -1, -2}, {-1, math.MaxInt64, -1, math.MaxInt64 - 1}} {
		q, r, e := integer.DivMod(integer.FromInt(x[0]), integer.FromInt(x[1]))
		if e != api.OK || !same(q, integer.FromInt(x[2])) || !same(r, integer.FromInt(x[3])) {
			t.Errorf("P1.1: DivMod(%d, %d): got %v, %v, %v", x[0], x[1], q, r, e)
		}
	}
	for _, b := range []api.Int{{}, {Neg: true}, {Mag: []uint32{0}}, {Neg: true, Mag: []uint32{0, 0}}} {
		q, r, e := integer.DivMod(integer.FromInt(5), b)
		if e != api.ErrZero {
			t.Errorf("P1.1: DivMod(5, %v): %v", b, e)
		}
		zero(t, "P1.1: DivMod", q)
		zero(t, "P1.1: DivMod", r)
	}
}

// P1.1: the greatest common divisor, also of integers with a long common divisor.
func TestGCD(t *testing.T) {
	check := func(a, b api.Int) {
		want := new(big.Int).GCD(nil, nil, new(big.Int).Abs(number(a)), new(big.Int).Abs(number(b)))
		expect(t, "P1.1: GCD", integer.GCD(a, b), want)
		expect(t, "P1.1: GCD", integer.GCD(loose(a), loose(b)), want)
	}
	pairs(check)
	s := source(3)
	for i := range 1500 {
		d := s.integer(1 + i%20)
		check(integer.Mul(s.integer(6), d), integer.Mul(s.integer(6), d))
	}
}

// P1.1: neighbours in Fibonacci's sequence, which need the greatest number of steps.
func TestGCDFibonacci(t *testing.T) {
	a, b := integer.FromInt(0), integer.FromInt(1)
	for i := range 1000 {
		a, b = b, integer.Add(a, b)
		if g := integer.GCD(a, b); !same(g, integer.FromInt(1)) {
			t.Fatalf("P1.1: GCD of Fibonacci numbers %d: %v", i, g)
		}
	}
}

func TestPow(t *testing.T) {
	s := source(4)
	for range 300 {
		a, n := s.integer(3), s.below(70)
		for _, form := range []api.Int{a, loose(a)} {
			got, e := integer.Pow(form, n)
			if e != api.OK {
				t.Fatalf("P1.1: Pow(%v, %d): %v", a, n, e)
			}
			expect(t, "P1.1: Pow", got, new(big.Int).Exp(number(a), big.NewInt(int64(n)), nil))
		}
	}
	for _, a := range []int64{0, 1, -1, 2, -3, 1000000007} {
		for _, n := range []int{0, 1, 2, 3, 4095, 4096} {
			got, e := integer.Pow(integer.FromInt(a), n)
			if e != api.OK {
				t.Errorf("P1.1: Pow(%d, %d): %v", a, n, e)
			}
			expect(t, "P1.1: Pow", got, new(big.Int).Exp(big.NewInt(a), big.NewInt(int64(n)), nil))
		}
		for _, n := range []int{-1, 4097, math.MinInt, math.MaxInt} {
			got, e := integer.Pow(integer.FromInt(a), n)
			if e != api.ErrInvalid {
				t.Errorf("P1.1: Pow(%d, %d): %v", a, n, e)
			}
			zero(t, "P1.1: Pow", got)
		}
	}
}

func TestSqrt(t *testing.T) {
	check := func(a api.Int) {
		got, e := integer.Sqrt(a)
		x := number(a)
		if x.Sign() < 0 {
			if e != api.ErrNegative {
				t.Fatalf("P1.1: Sqrt(%v): %v", x, e)
			}
			zero(t, "P1.1: Sqrt", got)
			return
		}
		if e != api.OK {
			t.Fatalf("P1.1: Sqrt(%v): %v", x, e)
		}
		expect(t, "P1.1: Sqrt", got, new(big.Int).Sqrt(x))
	}
	s := source(5)
	one := integer.FromInt(1)
	for i := range 1200 {
		a := s.integer(1 + i%12)
		square := integer.Mul(a, a)
		for _, b := range []api.Int{a, square, integer.Sub(square, one), integer.Add(square, one), integer.Add(square, a)} {
			check(b)
			check(loose(b))
		}
	}
	for n := range int64(2000) {
		check(integer.FromInt(n))
	}
	for range 5 {
		check(s.integer(700))
	}
	check(integer.FromInt(99))
	check(api.Int{Neg: true, Mag: []uint32{0}})
	check(integer.FromInt(-1))
}

func TestSmall(t *testing.T) {
	for _, n := range []int64{0, 1, -1, 255, math.MaxInt32, math.MinInt32, math.MaxUint32, -math.MaxUint32, 1 << 32, -1 << 32, 1 << 62, math.MaxInt64, -math.MaxInt64, math.MinInt64} {
		a := integer.FromInt(n)
		expect(t, "P1.1: FromInt", a, big.NewInt(n))
		for _, form := range []api.Int{a, loose(a)} {
			if v, ok := integer.Int64(form); v != n || !ok {
				t.Errorf("P1.1: Int64 of %d: got %d, %v", n, v, ok)
			}
		}
	}
	for _, a := range []api.Int{{Mag: []uint32{0, 1 << 31}}, {Neg: true, Mag: []uint32{1, 1 << 31}}, {Mag: []uint32{math.MaxUint32, math.MaxUint32}}, {Neg: true, Mag: []uint32{0, 0, 1}}, {Mag: []uint32{5, 0, 1}}, {Mag: []uint32{0, 0, 0, 7, 0}}} {
		if v, ok := integer.Int64(a); v != 0 || ok {
			t.Errorf("P1.1: Int64 of %v: got %d, %v", a, v, ok)
		}
	}
}

func TestValid(t *testing.T) {
	for _, a := range []api.Int{{}, {Mag: []uint32{}}, {Mag: []uint32{1}}, {Neg: true, Mag: []uint32{1}}, {Neg: true, Mag: []uint32{0, 1}}} {
		if !integer.Valid(a) {
			t.Errorf("P1.1: Valid(%v): false", a)
		}
		if !integer.Valid(integer.Norm(loose(a))) || integer.Valid(loose(a)) {
			t.Errorf("P1.1: Norm(%v)", loose(a))
		}
	}
	for _, a := range []api.Int{{Neg: true}, {Neg: true, Mag: []uint32{}}, {Mag: []uint32{0}}, {Neg: true, Mag: []uint32{0}}, {Mag: []uint32{1, 0}}, {Neg: true, Mag: []uint32{5, 0, 0}}} {
		if integer.Valid(a) {
			t.Errorf("P1.1: Valid(%v): true", a)
		}
	}
}

// P1.1: texts of all lengths, with zeros inside, which fill groups of digits.
func TestFormat(t *testing.T) {
	check := func(a api.Int) {
		want := number(a).String()
		if got := integer.Format(a); got != want {
			t.Fatalf("P1.1: Format: got %.60s, want %.60s", got, want)
		}
		if got := integer.Format(loose(a)); got != want {
			t.Fatalf("P1.1: Format of another form: got %.60s, want %.60s", got, want)
		}
	}
	s := source(6)
	for i := range 2000 {
		check(s.integer(1 + i%40))
	}
	one := integer.FromInt(1)
	for n := range 700 {
		p, _ := integer.Pow(integer.FromInt(10), n)
		for _, a := range []api.Int{p, integer.Neg(p), integer.Sub(p, one), integer.Add(p, one)} {
			check(a)
		}
	}
	check(api.Int{Neg: true, Mag: []uint32{0, 0}})
	long, _ := integer.Pow(s.integer(20), 1000)
	check(long)
}

func TestParse(t *testing.T) {
	nines := strings.Repeat("9", api.MaxText)
	for _, s := range []string{"0", "7", "-7", "10", "-10", "999999999", "1000000000", "4294967295", "4294967296", "-18446744073709551616", "100000000000000000000000000", nines, "-" + nines[1:], "1" + strings.Repeat("0", api.MaxText-1)} {
		a, e := integer.Parse(s)
		want, _ := new(big.Int).SetString(s, 10)
		if e != api.OK {
			t.Errorf("P1.1: Parse(%.20q): %v", s, e)
			continue
		}
		expect(t, "P1.1: Parse", a, want)
	}
	for _, s := range []string{"", "-", "--1", "-0", "+1", "+0", "01", "-01", "00", "000000000000", "1-", "1 ", " 1", "- 1", "1.0", "1e3", "1_000", "0x1", "a", "1a", "\u0661", "\uff11", "1\x00", "1\n", "−1", "1/1", "1:", nines + "9", "-" + nines, strings.Repeat("0", api.MaxText+1)} {
		a, e := integer.Parse(s)
		if e != api.ErrSyntax {
			t.Errorf("P1.1: Parse(%.20q): %v", s, e)
		}
		zero(t, "P1.1: Parse", a)
	}
}

// P1.1: functions change no argument, and results share no memory with arguments or with one another.
func TestMemory(t *testing.T) {
	s := source(7)
	for i := range 400 {
		a, b := s.integer(1+i%30), s.integer(1+i%5)
		if i%2 == 0 {
			a, b = loose(a), loose(b)
		}
		if i%7 == 0 {
			b = api.Int{Mag: []uint32{1}}
		}
		a0, b0 := api.Int{Neg: a.Neg, Mag: slices.Clone(a.Mag)}, api.Int{Neg: b.Neg, Mag: slices.Clone(b.Mag)}
		results := []api.Int{integer.Norm(a), integer.Neg(a), integer.Add(a, b), integer.Add(b, a), integer.Add(a, api.Int{}), integer.Sub(a, api.Int{}), integer.Mul(a, b), integer.GCD(a, b), integer.GCD(a, api.Int{}), integer.GCD(api.Int{}, a), integer.GCD(a, a)}
		q, r, _ := integer.DivMod(a, b)
		small, rest, _ := integer.DivMod(b, a)
		power, _ := integer.Pow(a, 1)
		root, _ := integer.Sqrt(a)
		integer.Format(a)
		results = append(results, q, r, small, rest, power, root)
		before := make([][]uint32, len(results))
		for k := range results {
			before[k] = slices.Clone(results[k].Mag)
		}
		for k, x := range results {
			if !slices.Equal(x.Mag, before[k]) {
				t.Fatalf("P1.1: result %d of row %d shares memory with another one", k, i)
			}
			whole := x.Mag[:cap(x.Mag)]
			for j := range whole {
				whole[j] = ^whole[j]
			}
		}
		if !same(a, a0) || !same(b, b0) {
			t.Fatalf("P1.1: row %d: an argument has changed", i)
		}
	}
}
