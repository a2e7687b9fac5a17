package rational_test

import (
	"strings"
	"testing"

	"setsquare/api"
	"setsquare/rational"
)

// P2.2: the laws of a field.
func TestField(t *testing.T) {
	s := source(21)
	zero, one := rational.FromInt(0), rational.FromInt(1)
	for range 8000 {
		a, b, c := s.number(), s.number(), s.number()
		for k, p := range [][2]api.Rat{
			{rational.Add(a, b), rational.Add(b, a)},
			{rational.Mul(a, b), rational.Mul(b, a)},
			{rational.Add(rational.Add(a, b), c), rational.Add(a, rational.Add(b, c))},
			{rational.Mul(rational.Mul(a, b), c), rational.Mul(a, rational.Mul(b, c))},
			{rational.Mul(a, rational.Add(b, c)), rational.Add(rational.Mul(a, b), rational.Mul(a, c))},
			{rational.Add(a, zero), a},
			{rational.Mul(a, one), a},
			{rational.Mul(a, zero), zero},
			{rational.Add(a, rational.Neg(a)), zero},
			{rational.Sub(a, b), rational.Add(a, rational.Neg(b))},
		} {
			if !same(p[0], p[1]) {
				t.Fatalf("P2.2: law %d of %v, %v, %v: %v and %v", k, a, b, c, p[0], p[1])
			}
		}
	}
}

// P2.2: each number that is not 0 has an inverse, and quotients are products with it.
func TestInverse(t *testing.T) {
	s := source(22)
	one := rational.FromInt(1)
	for range 8000 {
		a, b := s.number(), s.number()
		inverse, e := rational.Div(one, a)
		if rational.Sign(a) == 0 {
			if e != api.ErrZero || !none(inverse) {
				t.Fatalf("P2.2: the inverse of 0: %v, %v", inverse, e)
			}
			continue
		}
		quotient, f := rational.Div(b, a)
		if e != api.OK || f != api.OK || !same(rational.Mul(a, inverse), one) || !same(rational.Mul(b, inverse), quotient) || !same(rational.Mul(quotient, a), b) {
			t.Fatalf("P2.2: the inverse of %v: %v, %v", a, inverse, e)
		}
	}
}

// P2.2: the order is total, and respects sums, and products with positive numbers.
func TestOrder(t *testing.T) {
	s := source(23)
	for i := range 8000 {
		a, b, c := s.number(), s.number(), s.number()
		if i%50 == 0 {
			b = a
		}
		order := rational.Cmp(a, b)
		switch {
		case order != -rational.Cmp(b, a), order != rational.Sign(rational.Sub(a, b)), (order == 0) != same(a, b):
			t.Fatalf("P2.2: order of %v and %v: %d", a, b, order)
		case rational.Cmp(rational.Add(a, c), rational.Add(b, c)) != order:
			t.Fatalf("P2.2: order of %v and %v after the addition of %v", a, b, c)
		case rational.Cmp(rational.Mul(a, c), rational.Mul(b, c)) != order*rational.Sign(c):
			t.Fatalf("P2.2: order of %v and %v after the multiplication by %v", a, b, c)
		case order <= 0 && rational.Cmp(b, c) <= 0 && rational.Cmp(a, c) > 0:
			t.Fatalf("P2.2: order of %v, %v and %v", a, b, c)
		}
	}
}

// P2.3: Parse restores each number from its text, and different numbers have different texts.
func TestRestore(t *testing.T) {
	s := source(24)
	numbers := map[string]api.Rat{}
	for range 20000 {
		a := s.number()
		text := rational.Format(a)
		if b, e := rational.Parse(text); e != api.OK || !same(a, b) {
			t.Fatalf("P2.3: %v is restored as %v, %v", a, b, e)
		}
		if b, found := numbers[text]; found && !same(a, b) {
			t.Fatalf("P2.3: %v and %v have the same text", a, b)
		}
		numbers[text] = a
	}
	for num := int64(-40); num <= 40; num++ {
		for den := int64(1); den <= 40; den++ {
			a := rational.Frac(num, den)
			if b, e := rational.Parse(rational.Format(a)); e != api.OK || !same(a, b) {
				t.Errorf("P2.3: %d/%d is restored as %v, %v", num, den, b, e)
			}
		}
	}
}

// P2.3: numbers whose texts have MaxText bytes are restored; longer texts are not read.
func TestRestoreLong(t *testing.T) {
	for _, sign := range []string{"", "-"} {
		text := sign + "1/1" + strings.Repeat("0", api.MaxText-3-len(sign))
		a, e := rational.Parse(text)
		if e != api.OK || rational.Format(a) != text {
			t.Errorf("P2.3: a text of %d bytes is not restored: %v", len(text), e)
		}
		longer := rational.Format(rational.Mul(a, rational.Frac(1, 10)))
		if b, e := rational.Parse(longer); e != api.ErrSyntax || !none(b) {
			t.Errorf("P2.3: a text of %d bytes is read: %v", len(longer), e)
		}
	}
}
