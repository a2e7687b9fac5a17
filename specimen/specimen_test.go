package specimen_test

import (
	"testing"

	"setsquare/api"
	"setsquare/number"
	"setsquare/sample"
	"setsquare/specimen"
)

// The numbers are valid, and variants have the same value, other radicands, and no more than are wanted.
func TestVariants(t *testing.T) {
	s := specimen.Source{Source: 3}
	for k := range 200 {
		a := s.Constructible(k % 4)
		b := s.Variant(a, 4)
		if !number.Valid(a) || !number.Valid(b) || !number.Equal(a, b) {
			t.Fatalf("not variants: %.600s and %.600s", specimen.Show(a), specimen.Show(b))
		}
		if len(a.Radicands) != k%4 || len(b.Radicands) < len(a.Radicands) || len(b.Radicands) > 4 {
			t.Fatalf("the radicands of %.600s and %.600s", specimen.Show(a), specimen.Show(b))
		}
	}
}

// Many pairs are equal, and many are not.
func TestPairs(t *testing.T) {
	equal, count := 0, 0
	specimen.Pairs(300, 3, func(_ *specimen.Source, a, b api.Number) {
		if !number.Valid(a) || !number.Valid(b) {
			t.Fatalf("not valid: %.600s or %.600s", specimen.Show(a), specimen.Show(b))
		}
		count++
		if number.Equal(a, b) {
			equal++
		}
	})
	if count != 300 || equal < 40 || equal > 200 {
		t.Errorf("%d pairs, %d of them equal", count, equal)
	}
}

// A clone has the same lists in new memory.
func TestClone(t *testing.T) {
	a := specimen.Of("2, 3 1/2", "1 -2 3/4 5")
	b := specimen.Clone(a)
	if !specimen.Identical(a, b) || specimen.Identical(a, specimen.Of("2, 3 1/2", "1 -2 3/4 6")) || specimen.Identical(a, specimen.Of("2, 3 1/3", "1 -2 3/4 5")) {
		t.Errorf("a clone of %s: %s", specimen.Show(a), specimen.Show(b))
	}
	if !sample.Destroy(append(specimen.Lists(a), specimen.Lists(b)...)) {
		t.Error("a clone shares memory")
	}
}

// Sums of square roots are numbers with these values, and an error becomes the zero value.
func TestRoots(t *testing.T) {
	eight := specimen.Sum(specimen.Root(2), specimen.Root(2))
	if !number.Equal(eight, specimen.Root(8)) || !number.Equal(specimen.Roots(2, 2, 9), specimen.Sum(eight, number.FromInt(3))) {
		t.Error("sums of square roots")
	}
	if !specimen.Identical(specimen.Root(-1), api.Number{}) {
		t.Error("the square root of -1")
	}
}

// Values that are strange are not valid.
func TestStrange(t *testing.T) {
	for _, a := range specimen.Strange() {
		if number.Valid(a) {
			t.Errorf("a valid number: %v", a)
		}
	}
}
