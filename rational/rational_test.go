package rational_test

import (
	"math"
	"math/big"
	"slices"
	"testing"

	"setsquare/api"
	"setsquare/integer"
	"setsquare/rational"
)

// critical are numbers near the ends of the ranges of machine words.
var critical = []int64{0, 1, -1, 2, -2, 3, -6, 7, 1<<31 - 1, 1 - 1<<31, 1 << 31, -1 << 31, 1<<31 + 1, math.MaxUint32, 1 << 32, -1 << 32, math.MaxInt64, -math.MaxInt64, math.MinInt64}

// pairs calls a function with many pairs of numbers: all pairs of short critical ones, and some long ones.
func pairs(f func(a, b api.Rat)) {
	var short []api.Rat
	for _, num := range critical {
		for _, den := range []int64{1, 2, 6, 1<<31 - 1, 1 << 31, math.MaxUint32, 1 << 32, math.MaxInt64} {
			short = append(short, normal(big.NewRat(num, den)))
		}
	}
	for _, a := range short {
		for _, b := range short {
			f(a, b)
		}
	}
	s := source(1)
	for range 20000 {
		f(s.number(), s.number())
	}
}

// P2.1: sums, differences, products, quotients, opposite numbers, signs and comparisons.
func TestArithmetic(t *testing.T) {
	pairs(func(a, b api.Rat) {
		x, y := value(a), value(b)
		expect(t, "P2.1: Add", rational.Add(a, b), new(big.Rat).Add(x, y))
		expect(t, "P2.1: Sub", rational.Sub(a, b), new(big.Rat).Sub(x, y))
		expect(t, "P2.1: Mul", rational.Mul(a, b), new(big.Rat).Mul(x, y))
		expect(t, "P2.1: Neg", rational.Neg(a), new(big.Rat).Neg(x))
		if got := rational.Sign(a); got != x.Sign() {
			t.Fatalf("P2.1: Sign(%s): got %d", x, got)
		}
		if got := rational.Cmp(a, b); got != x.Cmp(y) {
			t.Fatalf("P2.1: Cmp(%s, %s): got %d", x, y, got)
		}
		quotient, e := rational.Div(a, b)
		if y.Sign() != 0 {
			expect(t, "P2.1: Div", quotient, new(big.Rat).Quo(x, y))
		} else if !none(quotient) {
			t.Fatalf("P2.1: Div(%s, 0): got %v", x, quotient)
		}
		if (e == api.ErrZero) != (y.Sign() == 0) || e != api.OK && e != api.ErrZero {
			t.Fatalf("P2.1: Div(%s, %s): %v", x, y, e)
		}
	})
}

// P2.1: numbers that are equal, and opposite numbers, whose sum is 0 in normal form.
func TestEqualNumbers(t *testing.T) {
	s := source(2)
	for range 2000 {
		a := s.number()
		zero := rational.FromInt(0)
		if !same(rational.Add(a, rational.Neg(a)), zero) || !same(rational.Sub(a, a), zero) || rational.Cmp(a, a) != 0 {
			t.Fatalf("P2.1: %v minus itself: %v", a, rational.Sub(a, a))
		}
		expect(t, "P2.1: Add", rational.Add(a, a), new(big.Rat).Mul(value(a), big.NewRat(2, 1)))
		expect(t, "P2.1: Mul", rational.Mul(a, a), new(big.Rat).Mul(value(a), value(a)))
	}
}

// P2.1: quotients of integers of all forms: not in lowest terms, and with a negative denominator.
func TestMake(t *testing.T) {
	s := source(3)
	for range 4000 {
		num, den := s.number().Num, s.positive()
		if s.below(2) == 0 {
			den = integer.Neg(den)
		}
		factor := s.positive()
		num, den = integer.Mul(num, factor), integer.Mul(den, factor)
		want := new(big.Rat).SetFrac(whole(num), whole(den))
		for _, p := range [][2]api.Int{{num, den}, {loose(num), den}, {num, loose(den)}, {loose(num), loose(den)}} {
			got, e := rational.Make(p[0], p[1])
			if e != api.OK {
				t.Fatalf("P2.1: Make(%v, %v): %v", p[0], p[1], e)
			}
			expect(t, "P2.1: Make", got, want)
		}
	}
	for _, den := range []api.Int{{}, {Neg: true}, {Mag: []uint32{0}}, {Neg: true, Mag: []uint32{0, 0}}} {
		for _, num := range []int64{0, 1, -5} {
			if got, e := rational.Make(integer.FromInt(num), den); e != api.ErrZero || !none(got) {
				t.Errorf("P2.1: Make(%d, %v): got %v, %v", num, den, got, e)
			}
		}
	}
}

func TestSmallQuotients(t *testing.T) {
	for _, num := range critical {
		expect(t, "P2.1: FromInt", rational.FromInt(num), new(big.Rat).SetInt64(num))
		for _, den := range critical {
			want := new(big.Rat)
			if den != 0 {
				want.SetFrac(big.NewInt(num), big.NewInt(den))
			}
			expect(t, "P2.1: Frac", rational.Frac(num, den), want)
		}
	}
}

// P2.1: Valid is defined for values of all forms.
func TestValid(t *testing.T) {
	s := source(4)
	for range 1000 {
		if a := s.number(); !rational.Valid(a) {
			t.Fatalf("P2.1: Valid(%v): false", a)
		}
	}
	zero := api.Int{}
	n := integer.FromInt
	for _, a := range []api.Rat{{Num: zero, Den: n(1)}, {Num: n(-1), Den: n(1)}, {Num: n(2), Den: n(3)}, {Num: n(-1 << 32), Den: n(math.MaxUint32)}} {
		if !rational.Valid(a) {
			t.Errorf("P2.1: Valid(%v): false", a)
		}
	}
	for _, a := range []api.Rat{
		{},
		{Num: n(1)},
		{Num: n(1), Den: zero},
		{Num: n(1), Den: n(-1)},
		{Num: zero, Den: n(-1)},
		{Num: zero, Den: n(2)},
		{Num: n(2), Den: n(4)},
		{Num: n(3), Den: n(-4)},
		{Num: n(1 << 40), Den: n(1 << 32)},
		{Num: n(-5), Den: n(5)},
		{Num: loose(n(1)), Den: n(2)},
		{Num: n(1), Den: loose(n(2))},
		{Num: api.Int{Neg: true}, Den: n(1)},
		{Num: api.Int{Mag: []uint32{0}}, Den: n(1)},
		{Num: n(1), Den: api.Int{Mag: []uint32{0}}},
	} {
		if rational.Valid(a) {
			t.Errorf("P2.1: Valid(%v): true", a)
		}
	}
}

// P2.1: the floor is an integer that is not greater than a, and less than 1 away from it.
func TestFloor(t *testing.T) {
	pairs(func(a, _ api.Rat) {
		got := rational.Floor(a)
		rest := new(big.Rat).Sub(value(a), new(big.Rat).SetInt(whole(got)))
		if !sameInt(got, words(whole(got))) || rest.Sign() < 0 || rest.Cmp(big.NewRat(1, 1)) >= 0 {
			t.Fatalf("P2.1: Floor(%v): got %v", a, got)
		}
	})
	for _, x := range []struct{ num, den, want int64 }{{-7, 2, -4}, {7, 2, 3}, {-1, 3, -1}, {1, 3, 0}, {-4, 1, -4}, {4, 1, 4}, {0, 1, 0}, {-9, 3, -3}} {
		if got := rational.Floor(rational.Frac(x.num, x.den)); !sameInt(got, integer.FromInt(x.want)) {
			t.Errorf("P2.1: Floor(%d/%d): got %v", x.num, x.den, got)
		}
	}
}

// P2.1: squares have the root that is not negative, and other numbers have none.
func TestSqrt(t *testing.T) {
	s := source(5)
	for range 3000 {
		a := s.number()
		square := normal(new(big.Rat).Mul(value(a), value(a)))
		root, ok := rational.Sqrt(square)
		if !ok {
			t.Fatalf("P2.1: Sqrt of the square of %v: none", a)
		}
		expect(t, "P2.1: Sqrt", root, new(big.Rat).Abs(value(a)))
		for _, factor := range []*big.Rat{big.NewRat(2, 1), big.NewRat(1, 3), big.NewRat(-1, 1), big.NewRat(8, 9), big.NewRat(9, 8)} {
			other := normal(factor.Mul(factor, value(square)))
			if root, ok := rational.Sqrt(other); (ok || !none(root)) && rational.Sign(a) != 0 {
				t.Fatalf("P2.1: Sqrt(%v): got %v, %v", other, root, ok)
			}
		}
	}
	for _, x := range []struct {
		a, root string
		ok      bool
	}{{"9/4", "3/2", true}, {"0", "0", true}, {"1", "1", true}, {"1/16", "1/4", true}, {"1/2", "", false}, {"4/3", "", false}, {"3/4", "", false}, {"-4", "", false}, {"-9/4", "", false}, {"2", "", false}} {
		root, ok := rational.Sqrt(read(t, x.a))
		if ok != x.ok || ok && rational.Format(root) != x.root || !ok && !none(root) {
			t.Errorf("P2.1: Sqrt(%s): got %v, %v", x.a, root, ok)
		}
	}
}

func TestExamples(t *testing.T) {
	if got := rational.Add(rational.Frac(1, 6), rational.Frac(1, 10)); rational.Format(got) != "4/15" {
		t.Errorf("P2.1: 1/6 + 1/10: got %v", got)
	}
	if got, e := rational.Div(rational.Frac(1, 2), rational.FromInt(0)); e != api.ErrZero || !none(got) {
		t.Errorf("P2.1: 1/2 divided by 0: got %v, %v", got, e)
	}
	if got, e := rational.Div(rational.FromInt(0), rational.FromInt(0)); e != api.ErrZero || !none(got) {
		t.Errorf("P2.1: 0 divided by 0: got %v, %v", got, e)
	}
	if got, e := rational.Div(rational.Frac(1, 2), rational.Frac(-3, 4)); e != api.OK || rational.Format(got) != "-2/3" {
		t.Errorf("P2.1: 1/2 divided by -3/4: got %v, %v", got, e)
	}
}

// P2.1: functions change no argument, and results share no memory with arguments or with one another.
func TestMemory(t *testing.T) {
	s := source(6)
	for i := range 2000 {
		a, b := s.number(), s.number()
		if i%5 == 0 {
			b = rational.FromInt(1)
		}
		square := rational.Mul(a, a)
		a0, b0, square0 := clone(a), clone(b), clone(square)
		quotient, _ := rational.Div(a, b)
		inverse, _ := rational.Div(b, a)
		root, _ := rational.Sqrt(square)
		made, _ := rational.Make(a.Num, b.Den)
		rational.Valid(a)
		rational.Cmp(a, b)
		text := rational.Format(a)
		results := []api.Rat{rational.Add(a, b), rational.Add(b, a), rational.Sub(a, b), rational.Neg(a), rational.Mul(a, b), rational.Mul(b, a), quotient, inverse, root, made, read(t, text), {Num: rational.Floor(a)}}
		before := make([]api.Rat, len(results))
		for k := range results {
			before[k] = clone(results[k])
		}
		for k, x := range results {
			if !same(x, before[k]) {
				t.Fatalf("P2.1: result %d of row %d shares memory with another one", k, i)
			}
			invert(x.Num)
			if !sameInt(x.Den, before[k].Den) {
				t.Fatalf("P2.1: result %d of row %d: both parts share memory", k, i)
			}
			invert(x.Den)
		}
		if !same(a, a0) || !same(b, b0) || !same(square, square0) {
			t.Fatalf("P2.1: row %d: an argument has changed", i)
		}
	}
}

func clone(a api.Rat) api.Rat {
	return api.Rat{Num: api.Int{Neg: a.Num.Neg, Mag: slices.Clone(a.Num.Mag)}, Den: api.Int{Neg: a.Den.Neg, Mag: slices.Clone(a.Den.Mag)}}
}

// invert changes all words of an integer, and those behind its end.
func invert(a api.Int) {
	all := a.Mag[:cap(a.Mag)]
	for i := range all {
		all[i] = ^all[i]
	}
}

// Calls with values that are not valid terminate without a panic.
func TestOtherArguments(t *testing.T) {
	forms := []api.Int{{}, {Neg: true}, {Mag: []uint32{0}}, {Neg: true, Mag: []uint32{0, 0}}, {Mag: []uint32{6}}, {Neg: true, Mag: []uint32{4}}, {Mag: []uint32{4, 0, 0}}, {Mag: []uint32{0, 0, 9}}}
	var odd []api.Rat
	for _, num := range forms {
		for _, den := range forms {
			odd = append(odd, api.Rat{Num: num, Den: den})
		}
	}
	for _, a := range odd {
		rational.Make(a.Num, a.Den)
		rational.Valid(a)
		rational.Sign(a)
		rational.Neg(a)
		rational.Floor(a)
		rational.Sqrt(a)
		rational.Format(a)
		for _, b := range odd {
			rational.Cmp(a, b)
			rational.Add(a, b)
			rational.Sub(a, b)
			rational.Mul(a, b)
			rational.Div(a, b)
		}
	}
}
