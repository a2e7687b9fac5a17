package sturm_test

import (
	"math/big"
	"slices"
	"strings"

	"setsquare/api"
	"setsquare/integer"
	"setsquare/polynomial"
	"setsquare/rational"
)

// A source yields the same numbers in every run.
type source uint64

func (s *source) below(n int) int {
	*s = *s*6364136223846793005 + 1442695040888963407
	return int(uint64(*s>>32) % uint64(n))
}

// number returns a number: mostly one of a few small ones, so that roots and ends of intervals often are the same.
func (s *source) number() *big.Rat {
	switch s.below(8) {
	case 0:
		return new(big.Rat)
	case 1:
		return new(big.Rat).SetFrac(big.NewInt(int64(s.below(9)-4)), power(3, 20+s.below(60)))
	case 2:
		return big.NewRat(int64(s.below(2000001)-1000000), int64(1+s.below(50)))
	}
	return big.NewRat(int64(s.below(17)-8), int64(1+s.below(3)))
}

// power returns the power of a small number.
func power(base int64, exponent int) *big.Int {
	return new(big.Int).Exp(big.NewInt(base), big.NewInt(int64(exponent)), nil)
}

// A place is the number middle + side sqrt(square); the side is 1 or -1, and square positive and not the square of a
// rational number, or both are 0.
type place struct {
	middle, square *big.Rat
	side           int
}

// cmp returns the sign of the place minus x.
func (p place) cmp(x *big.Rat) int {
	d := new(big.Rat).Sub(p.middle, x)
	switch {
	case p.side == 0:
		return d.Sign()
	case d.Sign() != -p.side:
		return p.side
	}
	return d.Sign() * new(big.Rat).Mul(d, d).Cmp(p.square)
}

// A factor is a polynomial, and its roots.
type factor struct {
	poly  []api.Rat
	roots []place
}

// linear returns X - root.
func linear(root *big.Rat) factor {
	poly := []api.Rat{normal(new(big.Rat).Neg(root)), rational.FromInt(1)}
	return factor{poly, []place{{root, new(big.Rat), 0}}}
}

// quadratic returns (X - middle)^2 - square; if square is positive, it is not the square of a rational number.
func quadratic(middle, square *big.Rat) factor {
	root := linear(middle).poly
	poly := polynomial.Sub(polynomial.Mul(root, root), []api.Rat{normal(square)})
	if square.Sign() < 0 {
		return factor{poly, nil}
	}
	return factor{poly, []place{{middle, square, -1}, {middle, square, 1}}}
}

// factor returns a polynomial without a multiple root.
func (s *source) factor() factor {
	squares := []*big.Rat{big.NewRat(2, 1), big.NewRat(3, 4), big.NewRat(5, 7), new(big.Rat).SetFrac(big.NewInt(2), power(10, 40)), big.NewRat(-1, 1), big.NewRat(-2, 9), new(big.Rat).SetFrac(big.NewInt(-1), power(10, 20))}
	if s.below(2) == 0 {
		return linear(s.number())
	}
	return quadratic(s.number(), squares[s.below(len(squares))])
}

// A known polynomial is a multiple of a product of powers of different factors; simple is the product of the factors.
type known struct {
	poly, simple []api.Rat
	roots        []place
}

// product returns a multiple of the product of the powers of factors with these exponents.
func product(multiple *big.Rat, factors []factor, exponents []int) known {
	result := known{[]api.Rat{normal(multiple)}, []api.Rat{rational.FromInt(1)}, nil}
	for i, f := range factors {
		for range exponents[i] {
			result.poly = polynomial.Mul(result.poly, f.poly)
		}
		if exponents[i] > 0 {
			result.simple = polynomial.Mul(result.simple, f.poly)
			result.roots = append(result.roots, f.roots...)
		}
	}
	return result
}

// known returns a polynomial whose roots are known; every second one has zeros at the end.
func (s *source) known(most int) known {
	var factors []factor
	var exponents []int
	seen := map[string]bool{}
	for range 1 + s.below(most) {
		f := s.factor()
		if text := show(f.poly); !seen[text] {
			seen[text] = true
			factors = append(factors, f)
			exponents = append(exponents, max(1, s.below(5)-1))
		}
	}
	multiple := s.number()
	if multiple.Sign() == 0 {
		multiple.SetInt64(-1)
	}
	result := product(multiple, factors, exponents)
	if s.below(2) == 0 {
		result.poly = loose(result.poly)
	}
	return result
}

// count returns the number of roots greater than low and at most high.
func (k known) count(low, high *big.Rat) int {
	n := 0
	for _, r := range k.roots {
		if r.cmp(low) > 0 && r.cmp(high) <= 0 {
			n++
		}
	}
	return n
}

// end returns a number that can be an end of an interval: a root, a number near one, or any other number.
func (s *source) end(k known) *big.Rat {
	if len(k.roots) == 0 || s.below(3) == 0 {
		return s.number()
	}
	root := new(big.Rat).Set(k.roots[s.below(len(k.roots))].middle)
	if s.below(3) == 0 {
		root.Add(root, new(big.Rat).SetFrac(big.NewInt(int64(s.below(9)-4)), power(10, s.below(21))))
	}
	return root
}

// polynomials calls a function with many polynomials whose roots are known.
func polynomials(f func(s *source, k known)) {
	s := source(51)
	for range 300 {
		f(&s, s.known(5))
	}
	f(&s, crowd())
	f(&s, wilkinson(20))
}

// crowd returns a polynomial with many close roots, some of which are not real.
func crowd() known {
	near := func(k int64) *big.Rat {
		return new(big.Rat).Add(big.NewRat(1, 3), new(big.Rat).SetFrac(big.NewInt(k), power(10, 30)))
	}
	var factors []factor
	for k := range int64(8) {
		factors = append(factors, linear(near(k)))
	}
	for k := range int64(3) {
		factors = append(factors, quadratic(near(k), new(big.Rat).SetFrac(big.NewInt(2), power(10, 64))))
		factors = append(factors, quadratic(near(k+4), new(big.Rat).SetFrac(big.NewInt(-1), power(10, 70))))
	}
	return product(big.NewRat(-5, 7), factors, slices.Repeat([]int{1}, len(factors)))
}

// wilkinson returns the polynomial with the roots 1 to n.
func wilkinson(n int) known {
	var factors []factor
	for k := range n {
		factors = append(factors, linear(big.NewRat(int64(k+1), 1)))
	}
	return product(big.NewRat(1, 1), factors, slices.Repeat([]int{1}, n))
}

// great returns polynomials of great degrees.
func great() []known {
	s := source(57)
	var powers, halves, mixed []factor
	for k := range int64(50) {
		powers = append(powers, linear(new(big.Rat).SetFrac(power(3, int(k)), big.NewInt(1000))))
		halves = append(halves, linear(new(big.Rat).SetFrac(big.NewInt(1-2*(k%2)), power(2, int(k)))))
	}
	for k := range int64(25) {
		near := new(big.Rat).SetFrac(big.NewInt(k/5), power(10, 9*int(k%5)))
		middle := near.Add(near, big.NewRat(k%5, 7))
		mixed = append(mixed, quadratic(middle, big.NewRat(2, 1+2*k)), quadratic(middle, big.NewRat(-1, 1+10*k*k*k)))
	}
	result := []known{wilkinson(80), product(big.NewRat(3, 5), mixed, slices.Repeat([]int{1}, len(mixed)))}
	for _, factors := range [][]factor{powers, halves} {
		result = append(result, product(big.NewRat(1, 1), factors, slices.Repeat([]int{1}, len(factors))))
	}
	for range 5 {
		result = append(result, s.known(60))
	}
	return result
}

// rootless are polynomials of all kinds without roots: 0 in its forms, constants, and others.
func rootless() [][]api.Rat {
	return [][]api.Rat{nil, {}, of("0"), of("0 0 0"), of("1"), of("-2/3"), of("5 0 0"), of("1 0 1"), of("2 2 1 0"), of("-1 0 0 0 -1"), of("4 0 4 0 1")}
}

// whole returns the value of an integer.
func whole(a api.Int) *big.Int {
	n, _ := new(big.Int).SetString(integer.Format(a), 10)
	return n
}

// words returns the normal form of an integer.
func words(n *big.Int) api.Int {
	var mag []uint32
	for rest := new(big.Int).Abs(n); rest.Sign() > 0; rest.Rsh(rest, 32) {
		mag = append(mag, uint32(rest.Uint64()))
	}
	return api.Int{Neg: n.Sign() < 0, Mag: mag}
}

// value returns the value of a number.
func value(a api.Rat) *big.Rat { return new(big.Rat).SetFrac(whole(a.Num), whole(a.Den)) }

// normal returns the normal form of a number.
func normal(q *big.Rat) api.Rat { return api.Rat{Num: words(q.Num()), Den: words(q.Denom())} }

// fraction returns the number of a text.
func fraction(text string) api.Rat { return of(text)[0] }

// from returns the interval from the number of a text to another one.
func from(low, high string) api.Interval {
	return api.Interval{Low: fraction(low), High: fraction(high)}
}

// of returns the polynomial of a text: its coefficients, the constant first.
func of(text string) []api.Rat {
	a := []api.Rat{}
	for _, word := range strings.Fields(text) {
		q, ok := new(big.Rat).SetString(word)
		if !ok {
			panic(text)
		}
		a = append(a, normal(q))
	}
	return a
}

// list returns the polynomials of texts, which are separated by commas.
func list(text string) [][]api.Rat {
	var result [][]api.Rat
	if text != "" {
		for part := range strings.SplitSeq(text, ",") {
			result = append(result, of(part))
		}
	}
	return result
}

// show returns a polynomial as a text.
func show(a []api.Rat) string {
	var words []string
	for _, c := range a {
		words = append(words, rational.Format(c))
	}
	return "[" + strings.Join(words, " ") + "]"
}

// showInterval returns an interval as a text.
func showInterval(i api.Interval) string {
	return rational.Format(i.Low) + " .. " + rational.Format(i.High)
}

// loose returns a polynomial with zeros at the end.
func loose(a []api.Rat) []api.Rat {
	return append(slices.Clone(a), rational.FromInt(0), rational.FromInt(0))
}

func sameInt(a, b api.Int) bool { return a.Neg == b.Neg && slices.Equal(a.Mag, b.Mag) }

func sameRat(a, b api.Rat) bool { return sameInt(a.Num, b.Num) && sameInt(a.Den, b.Den) }

// same reports whether two polynomials have the same form.
func same(a, b []api.Rat) bool { return slices.EqualFunc(a, b, sameRat) }
