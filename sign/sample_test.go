package sign_test

import (
	"math/big"

	"setsquare/api"
	"setsquare/rational"
	"setsquare/sample"
	"setsquare/tower"
)

var (
	show       = sample.Show
	of         = sample.Of
	towerOf    = sample.Lists
	clone      = sample.Clone
	cloneTower = sample.CloneAll
	nought     = sample.Zeros
	raised     = sample.Raised
)

// digits is the number of binary digits of reference values, and doubt is the power of 2 below which one counts as 0.
// The samples have no values other than 0 that are so small.
const (
	digits = 5000
	doubt  = -2000
)

// bigInt returns an integer in the form of package big.
func bigInt(n api.Int) *big.Int {
	result := new(big.Int)
	for k := len(n.Mag) - 1; k >= 0; k-- {
		result.Lsh(result, 32).Add(result, big.NewInt(int64(n.Mag[k])))
	}
	if n.Neg {
		result.Neg(result)
	}
	return result
}

// bigFloat returns a rational number, rounded to digits.
func bigFloat(c api.Rat) *big.Float {
	return new(big.Float).SetPrec(digits).SetRat(new(big.Rat).SetFrac(bigInt(c.Num), bigInt(c.Den)))
}

// roots are the values of the square roots of a tower.
type roots []*big.Float

// value returns the value of an element.
func (s roots) value(a []api.Rat) *big.Float {
	if len(a) == 1 {
		return bigFloat(a[0])
	}
	height := 0
	for len(a) > 2<<height {
		height++
	}
	product := new(big.Float).SetPrec(digits).Mul(s.value(a[len(a)/2:]), s[height])
	return product.Add(product, s.value(a[:len(a)/2]))
}

// sign returns the sign of the value of an element.
func (s roots) sign(a []api.Rat) int { return floatSign(s.value(a)) }

// floatSign returns the sign of a number, and 0 for one that is very small.
func floatSign(x *big.Float) int {
	if x.Sign() == 0 || x.MantExp(nil) < doubt {
		return 0
	}
	return x.Sign()
}

// rootsOf returns the values of the square roots of a tower, and whether it is real.
func rootsOf(t [][]api.Rat) (roots, bool) {
	var s roots
	for _, r := range t {
		x := s.value(r)
		if floatSign(x) != 1 {
			return nil, false
		}
		s = append(s, new(big.Float).SetPrec(digits).Sqrt(x))
	}
	return s, true
}

// A source yields the same towers and elements in every run.
type source struct{ sample.Source }

// radicand returns a positive radicand of some kind for a real tower.
func (s *source) radicand(t [][]api.Rat, kind int) []api.Rat {
	w := s.Element(1 << len(t))
	square := tower.Mul(t, w, w)
	switch {
	case kind < 5:
		return s.positive(t, s.Radicand(t, kind))
	case kind == 5 && len(t) > 0:
		// The product of the radicand before and a square.
		square = tower.Mul(t, raised(t, t[len(t)-1]), square)
	}
	return s.positive(t, square)
}

// positive returns a radicand, its opposite, or 2, so that it is positive.
func (s *source) positive(t [][]api.Rat, r []api.Rat) []api.Rat {
	values, _ := rootsOf(t)
	switch values.sign(r) {
	case -1:
		return tower.Neg(t, r)
	case 0:
		return tower.FromRat(t, rational.FromInt(2))
	}
	return r
}

// tower returns a real tower.
func (s *source) tower(height int) [][]api.Rat {
	t := [][]api.Rat{}
	kind := s.Below(8)
	for range height {
		if kind == 7 {
			t = append(t, s.radicand(t, s.Below(7)))
		} else {
			t = append(t, s.radicand(t, kind))
		}
	}
	return t
}

// A scene consists of a real tower, its square roots and two elements.
type scene struct {
	tower [][]api.Rat
	roots roots
	a, b  []api.Rat
}

// scenes calls a function with many towers of heights up to most, and elements.
func scenes(count, most int, f func(s *source, x scene)) {
	s := source{71}
	for k := range count {
		height := k % (most + 1)
		t := s.tower(height)
		values, _ := rootsOf(t)
		f(&s, scene{t, values, s.Element(1 << height), s.Element(1 << height)})
	}
}

// show returns the scene as a text.
func (x scene) show() string {
	return sample.Tower(x.tower) + ", elements " + show(x.a) + " and " + show(x.b)
}

// power returns the product of n factors a.
func power(t [][]api.Rat, a []api.Rat, n int) []api.Rat {
	result := tower.FromRat(t, rational.FromInt(1))
	for range n {
		result = tower.Mul(t, result, a)
	}
	return result
}
