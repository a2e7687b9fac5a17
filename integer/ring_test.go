package integer_test

import (
	"strings"
	"testing"

	"setsquare/api"
	"setsquare/integer"
)

// P1.2: sums and products are associative, commutative and distributive, with the neutral elements 0 and 1.
func TestRingLaws(t *testing.T) {
	s := source(11)
	one := integer.FromInt(1)
	for i := range 1500 {
		n := 1 + i%12
		if i%100 == 0 {
			n = 200
		}
		a, b, c := s.integer(n), s.integer(n), s.integer(n)
		for k, p := range [][2]api.Int{
			{integer.Add(a, b), integer.Add(b, a)},
			{integer.Mul(a, b), integer.Mul(b, a)},
			{integer.Add(integer.Add(a, b), c), integer.Add(a, integer.Add(b, c))},
			{integer.Mul(integer.Mul(a, b), c), integer.Mul(a, integer.Mul(b, c))},
			{integer.Mul(a, integer.Add(b, c)), integer.Add(integer.Mul(a, b), integer.Mul(a, c))},
			{integer.Add(a, api.Int{}), a},
			{integer.Mul(a, one), a},
			{integer.Add(a, integer.Neg(a)), api.Int{}},
			{integer.Sub(a, b), integer.Add(a, integer.Neg(b))},
		} {
			if !same(p[0], p[1]) {
				t.Fatalf("P1.2: law %d of %v, %v, %v: %v and %v", k, a, b, c, p[0], p[1])
			}
		}
	}
}

// P1.2: the order is total, and agrees with sums and with products by positive integers.
func TestOrder(t *testing.T) {
	s := source(12)
	for i := range 3000 {
		n := 1 + i%9
		a, b, c := s.integer(n), s.integer(n), s.integer(n)
		order := integer.Cmp(a, b)
		switch {
		case order != -integer.Cmp(b, a), order != integer.Sign(integer.Sub(a, b)), (order == 0) != same(a, b):
			t.Fatalf("P1.2: order of %v and %v: %d", a, b, order)
		case integer.Cmp(integer.Add(a, c), integer.Add(b, c)) != order:
			t.Fatalf("P1.2: order of %v and %v after the addition of %v", a, b, c)
		case integer.Cmp(integer.Mul(a, c), integer.Mul(b, c)) != order*integer.Sign(c):
			t.Fatalf("P1.2: order of %v and %v after the multiplication by %v", a, b, c)
		case order <= 0 && integer.Cmp(b, c) <= 0 && integer.Cmp(a, c) > 0:
			t.Fatalf("P1.2: order of %v, %v and %v", a, b, c)
		}
	}
}

// P1.2: Parse restores every integer from its decimal digits, up to MaxText bytes.
func TestRestore(t *testing.T) {
	s := source(13)
	for i := range 3000 {
		a := s.integer(1 + i%40)
		if b, e := integer.Parse(integer.Format(a)); e != api.OK || !same(a, b) {
			t.Fatalf("P1.2: %v is restored as %v, %v", a, b, e)
		}
	}
	for _, n := range []int{api.MaxText - 1, api.MaxText} {
		for _, sign := range []string{"", "-"} {
			text := sign + strings.Repeat("907", n)[:n-len(sign)]
			a, e := integer.Parse(text)
			if e != api.OK || integer.Format(a) != text {
				t.Errorf("P1.2: a text of %d bytes is not restored: %v", len(text), e)
			}
			longer := integer.Format(integer.Mul(a, integer.FromInt(100)))
			if b, e := integer.Parse(longer); e != api.ErrSyntax || len(b.Mag) != 0 {
				t.Errorf("P1.2: a text of %d bytes is read: %v", len(longer), e)
			}
		}
	}
}

// P1.2: the greatest common divisor divides both arguments, and is 1 after both are divided by it.
func TestDivisor(t *testing.T) {
	s := source(14)
	for i := range 1500 {
		d := s.integer(1 + i%8)
		a, b := integer.Mul(s.integer(1+i%15), d), integer.Mul(s.integer(1+i%7), d)
		g := integer.GCD(a, b)
		if integer.Sign(a) == 0 && integer.Sign(b) == 0 {
			if integer.Sign(g) != 0 {
				t.Fatalf("P1.2: GCD(0, 0): %v", g)
			}
			continue
		}
		x, r, _ := integer.DivMod(a, g)
		y, u, _ := integer.DivMod(b, g)
		if integer.Sign(g) != 1 || integer.Sign(r) != 0 || integer.Sign(u) != 0 || !same(integer.GCD(x, y), integer.FromInt(1)) {
			t.Fatalf("P1.2: GCD(%v, %v): %v", a, b, g)
		}
	}
}
