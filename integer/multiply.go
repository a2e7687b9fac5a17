package integer

import "math/bits"

// karatsuba is the number of words from which Karatsuba's method is the faster one.
const karatsuba = 64

// multiply returns a times b.
func multiply(a, b magnitude) magnitude {
	product := make(magnitude, len(a)+len(b))
	addProduct(product, a, b)
	return trim(product)
}

// addProduct adds a times b to z, into which the sum fits.
func addProduct(z, a, b []uint32) {
	if len(a) < len(b) {
		a, b = b, a
	}
	switch {
	case len(b) < karatsuba:
		for i, w := range b {
			addMultiple(z[i:], a, w)
		}
	case len(a) > len(b):
		// Karatsuba's method needs factors of the same length.
		for i := 0; i < len(a); i += len(b) {
			addProduct(z[i:], a[i:min(i+len(b), len(a))], b)
		}
	default:
		addHalves(z, a, b)
	}
}

// addMultiple adds a times w to z, into which the sum fits.
func addMultiple(z, a []uint32, w uint32) {
	var carry uint64
	low := z[:len(a)]
	for i, x := range a {
		carry += uint64(x)*uint64(w) + uint64(low[i])
		low[i] = uint32(carry)
		carry >>= 32
	}
	if carry != 0 {
		addTo(z[len(a):], []uint32{uint32(carry)})
	}
}

// addHalves adds a times b to z, where a and b have the same length, with three products of halves instead of four.
func addHalves(z, a, b []uint32) {
	half := (len(a) + 1) / 2
	a0, a1, b0, b1 := trim(a[:half]), trim(a[half:]), trim(b[:half]), trim(b[half:])
	low, high := multiply(a0, b0), multiply(a1, b1)
	middle := multiply(add(a0, a1), add(b0, b1))
	subtractFrom(middle, low)
	subtractFrom(middle, high)
	addTo(z, low)
	addTo(z[half:], trim(middle))
	addTo(z[2*half:], high)
}

// power returns the product of n factors a.
func power(a magnitude, n int) magnitude {
	product := magnitude{1}
	for i := bits.Len(uint(n)) - 1; i >= 0; i-- {
		product = multiply(product, product)
		if n>>i&1 == 1 {
			product = multiply(product, a)
		}
	}
	return product
}
