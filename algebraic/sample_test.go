package algebraic_test

import (
	"math"
	"slices"
	"strconv"
	"strings"

	"setsquare/algebraic"
	"setsquare/api"
	"setsquare/integer"
	"setsquare/interval"
	"setsquare/polynomial"
	"setsquare/rational"
	"setsquare/sample"
	"setsquare/sign"
	"setsquare/specimen"
	"setsquare/sturm"
	"setsquare/tower"
)

var (
	numberOf = specimen.Of
	showNum  = specimen.Show
	showPoly = sample.Show
	rootOf   = specimen.Root
	rootsOf  = specimen.Roots
)

type source = specimen.Source

// form returns the form with the coefficients of a text and a Root. Coefficients that cannot be read are 0.
func form(coefs string, root int) api.Algebraic {
	a := api.Algebraic{Root: root}
	for _, word := range strings.Fields(coefs) {
		n, _ := integer.Parse(word)
		a.Poly = append(a.Poly, n)
	}
	return a
}

// formOf returns the form of the multiple of a polynomial with coprime integers.
func formOf(f []api.Rat, root int) api.Algebraic {
	return api.Algebraic{Poly: polynomial.Primitive(f), Root: root}
}

// show returns any form as a text.
func show(a api.Algebraic) string {
	var words []string
	for _, n := range a.Poly {
		words = append(words, integer.Format(n))
	}
	return "[" + strings.Join(words, " ") + "] " + strconv.Itoa(a.Root)
}

// clone returns a form in new memory.
func clone(a api.Algebraic) api.Algebraic {
	b := api.Algebraic{Root: a.Root}
	for _, n := range a.Poly {
		b.Poly = append(b.Poly, api.Int{Neg: n.Neg, Mag: slices.Clone(n.Mag)})
	}
	return b
}

// poly returns the polynomial of a form.
func poly(a api.Algebraic) []api.Rat {
	var f []api.Rat
	for _, n := range clone(a).Poly {
		f = append(f, api.Rat{Num: n, Den: integer.FromInt(1)})
	}
	return f
}

// valueAt returns the value of a polynomial at a number, as an element of its tower.
func valueAt(f []api.Rat, a api.Number) []api.Rat {
	sum := tower.FromRat(a.Radicands, rational.FromInt(0))
	for _, c := range slices.Backward(f) {
		sum = tower.Add(a.Radicands, tower.Mul(a.Radicands, sum, a.Coefs), tower.FromRat(a.Radicands, c))
	}
	return sum
}

// minimal returns the minimal polynomial of a number: it shows how the first power of the number that depends on those
// before it depends on them.
func minimal(a api.Number) []api.Rat {
	var powers, polys [][]api.Rat // without what they have in common with those before
	other := func(c api.Rat) bool { return rational.Sign(c) != 0 }
	for n := 0; ; n++ {
		f := append(sample.Zeros(n), rational.FromInt(1))
		power := valueAt(f, a)
		for k, p := range powers {
			pivot := slices.IndexFunc(p, other)
			factor, _ := rational.Div(power[pivot], p[pivot])
			power = minusMultiple(power, p, factor)
			f = polynomial.Sub(f, polynomial.Scale(polys[k], factor))
		}
		if tower.Zero(power) {
			return f
		}
		powers, polys = append(powers, power), append(polys, f)
	}
}

// minusMultiple returns a - factor b, with all coefficients.
func minusMultiple(a, b []api.Rat, factor api.Rat) []api.Rat {
	result := sample.Zeros(len(a))
	for p := range a {
		result[p] = rational.Sub(a[p], rational.Mul(factor, b[p]))
	}
	return result
}

// powerOfHalf returns 2^-n.
func powerOfHalf(n int) api.Rat {
	scale, _ := integer.Pow(integer.FromInt(2), n)
	c, _ := rational.Make(integer.FromInt(1), scale)
	return c
}

// place returns the number of the root of a polynomial that a number is, as Sturm's theorem shows it.
func place(f []api.Rat, a api.Number) int {
	chain := sturm.Chain(f)
	for bits := 16; bits <= sign.MaxBits; bits *= 2 {
		i := sign.Enclose(a.Radicands, a.Coefs, bits)
		low := rational.Sub(i.Low, powerOfHalf(bits))
		if sturm.Changes(chain, low)-sturm.Changes(chain, i.High) == 1 {
			return sturm.Changes(chain, rational.Neg(polynomial.Bound(f))) - sturm.Changes(chain, low)
		}
	}
	return -1
}

// others returns valid forms with the value of a number that are not canonical.
func others(s *source, a api.Number) []api.Algebraic {
	var result []api.Algebraic
	f := algebraic.Minimal(a)
	for range 3 {
		g := polynomial.Mul(f, []api.Rat{rational.Frac(int64(s.Below(9)-4), int64(1+s.Below(3))), rational.FromInt(1)})
		if s.Below(2) == 0 {
			g = polynomial.Mul(g, sample.Of([]string{"1 0 1", "-2 0 1", "-3 0 1", "-1 -1 0 1", "2 3"}[s.Below(5)]))
		}
		if g = polynomial.Squarefree(g); polynomial.Degree(g) > polynomial.Degree(f) {
			result = append(result, formOf(g, place(g, a)))
		}
	}
	return result
}

// contains reports whether an interval contains a number.
func contains(i api.Interval, a api.Number) bool {
	end := func(c api.Rat) []api.Rat { return tower.FromRat(a.Radicands, c) }
	return interval.Valid(i) && sign.Cmp(a.Radicands, end(i.Low), a.Coefs) <= 0 && sign.Cmp(a.Radicands, a.Coefs, end(i.High)) <= 0
}

// abnormal are integers that are not in normal form.
func abnormal() []api.Int {
	return []api.Int{{Neg: true}, {Mag: []uint32{0}}, {Neg: true, Mag: []uint32{0}}, {Mag: []uint32{1, 0}}, {Neg: true, Mag: []uint32{2, 0}}, {Mag: []uint32{0, 0, 0}}, {Mag: []uint32{5, 1, 0, 0}}}
}

// invalid returns forms that are not valid.
func invalid() []api.Algebraic {
	l := []api.Algebraic{
		{}, {Root: 1}, {Poly: []api.Int{}},
		form("1", 0), form("5", 0), form("0", 0), form("-1", 0), form("1", -1),
		// The last coefficient is 0 or negative.
		form("0 0", 0), form("-2 0 1 0", 0), form("-2 0 1 0", 1), form("1 0", 0), form("0 1 0 0", 0), form("2 0 -1", 1), form("1 -1", 0), form("0 -1", 0), form("3 -4", 0),
		// A common divisor.
		form("-4 0 2", 0), form("-4 0 2", 1), form("2 4", 0), form("0 2", 0), form("-6 9", 0), form("-3000000000000000000000 6000000000000000000000", 0), form("-6 0 15 0 3", 0), form("0 -7 0 7", 1),
		// Multiple roots, also complex ones: X^2 + 1 and X^2 + X + 2 are twice in the last products.
		form("1 -2 1", 0), form("0 0 1", 0), form("0 0 1", 1), form("0 0 1 1", 0), form("0 0 1 1", 1), form("4 0 -4 0 1", 0), form("4 0 -4 0 1", 1), form("1 0 2 0 1", 0), form("-1 1 -2 2 -1 1", 0), form("-8 -4 -6 1 0 1", 0), form("0 1 0 2 0 1", 0), form("-1 3 -3 1", 0),
		// No real root, or not so many.
		form("1 0 1", 0), form("1 0 0 0 1", 0), form("1 1 1", 0), form("2 0 3 0 1", 0), form("1 0 1", 1), form("-2 0 0 1", 1), form("-2 0 0 1", 2), form("-1 0 -2 0 1", 2),
	}
	for _, a := range []api.Algebraic{form("-2 0 1", 2), form("0 1", 1), form("-3 4", 1), form("2 -2 -1 1", 3), form("1 0 -10 0 1", 4), form("-1 -1 0 1", 1)} {
		// Root is the number of real roots.
		for _, root := range []int{a.Root, a.Root + 1, 100, math.MaxInt, math.MinInt, -1, -2, -a.Root, 1 << 32, 1 << 33} {
			if root != 0 {
				l = append(l, api.Algebraic{Poly: a.Poly, Root: root})
			}
		}
	}
	for _, n := range abnormal() {
		for p := range 3 {
			a := form("-2 0 1", 1)
			a.Poly[p] = n
			l = append(l, a)
		}
	}
	return l
}

// valid returns valid forms; only a part of them is canonical.
func valid() []api.Algebraic {
	var l []api.Algebraic
	for _, row := range []struct {
		coefs string
		roots int
	}{
		{"0 1", 1}, {"-3 4", 1}, {"5 1", 1}, {"-1 2", 1}, {"-100000000000000000001 100000000000000000000", 1}, {"-2 0 1", 2}, {"-1 -1 1", 2}, {"-1 0 4", 2}, {"0 1 1", 2}, {"-2 0 3", 2},
		{"2 -2 -1 1", 3}, {"-2 0 0 1", 1}, {"0 -1 0 1", 3}, {"0 1 0 1", 1}, {"1 -3 0 1", 3}, {"-1 -1 0 1", 1}, {"0 -2 0 3", 3}, {"1 0 -10 0 1", 4}, {"-1 0 -2 0 1", 2}, {"6 0 -5 0 1", 4}, {"-6 0 1 0 1", 2}, {"-2 0 -1 0 1", 2},
		{"24 -50 35 -10 1", 4}, {"-1 0 0 0 0 1", 1}, {"576 0 -960 0 352 0 -40 0 1", 8},
	} {
		for root := range row.roots {
			l = append(l, form(row.coefs, root))
		}
	}
	return l
}
