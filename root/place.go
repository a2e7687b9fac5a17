package root

import (
	"setsquare/api"
	"setsquare/residue"
)

// A place is a prime number, and square roots modulo it of the first radicands of a tower. It maps the elements of the
// tower of these radicands whose denominators it does not divide to residues, and squares to squares: the square roots
// belong to p-adic integers (by Hensel's lemma, because they are not 0), and so does the square root of a p-adic integer,
// if it is a p-adic number. So a residue that is no square shows, in a short time, that an element is no square.
type place struct {
	prime uint64
	roots []uint64
}

// The prime numbers of places lie between these numbers, and have the remainder 3, as the greatest one, if they are
// divided by 4, because square roots are powers then. They are so small that they are found quickly, and so great that
// they seldom divide a denominator.
const (
	leastPrime    = 1 << 10
	greatestPrime = 1<<16 - 1
)

// enough is the number of places that an element is examined at. Half of them, on average, show it if it is no square;
// but of the prime numbers, only one in 2^h has square roots of all radicands of a tower of the height h.
const enough = 6

// highTower is the least height of towers for which elements are examined at places. For smaller ones, it takes less time
// to look for a square root in vain.
const highTower = 3

// squareRoot returns a square root of a residue, if it is a square.
func (m place) squareRoot(x uint64) (uint64, bool) {
	root := residue.Power(x, (m.prime+1)/4, m.prime)
	return root, root*root%m.prime == x
}

// image returns the residue that an element is mapped to, and whether there is one.
func (m place) image(a []api.Rat) (uint64, bool) {
	if len(a) == 1 {
		return m.rational(a[0])
	}
	u, v := halves(a)
	x, ok := m.image(u)
	if !ok {
		return 0, false
	}
	y, ok := m.image(v)
	return (x + y*m.roots[height(v)]) % m.prime, ok
}

// rational returns the residue of a rational number, and whether there is one.
func (m place) rational(c api.Rat) (uint64, bool) {
	num, den := residue.Of(c.Num, m.prime), residue.Of(c.Den, m.prime)
	if den == 1 {
		// This is the most frequent case, and to find an inverse takes long.
		return num, true
	}
	return num * residue.Inverse(den, m.prime) % m.prime, den != 0
}

// keep adds square roots of further radicands to a place as long as they are squares, and keeps it among the places. It
// is given up if there is no residue of a radicand, or the residue is 0.
func (f *field) keep(m place) {
	for _, r := range f.tower[len(m.roots):] {
		x, ok := m.image(r)
		if !ok || x == 0 {
			return
		}
		root, ok := m.squareRoot(x)
		if !ok {
			break
		}
		m.roots = append(m.roots, root)
	}
	f.places[len(m.roots)] = append(f.places[len(m.roots)], m)
}

// place returns place number i with some number of square roots; if this is not the height of the tower, the next
// radicand is no square there. There is none if the prime numbers are used up.
func (f *field) place(roots, i int) (place, bool) {
	for ; len(f.places[roots]) <= i; f.prime -= 4 {
		if f.prime < leastPrime {
			return place{}, false
		}
		if residue.IsPrime(f.prime) {
			f.keep(place{prime: f.prime})
		}
	}
	return f.places[roots][i], true
}

// excludes reports whether a place shows that an element of the tower of the first radicands is no square.
func (f *field) excludes(a []api.Rat) bool {
	for i := range enough {
		m, ok := f.place(height(a), i)
		if !ok {
			return false
		}
		x, ok := m.image(a)
		if _, square := m.squareRoot(x); ok && !square {
			return true
		}
	}
	return false
}
