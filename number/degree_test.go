package number

import (
	"testing"

	"setsquare/api"
	"setsquare/sample"
	"setsquare/tower"
)

// P9.1: Equal relies on polynomials of which numbers are roots. They are found for the degree of the number, which can be
// less than that of its tower.
func TestAnnihilator(t *testing.T) {
	for _, row := range []struct{ radicands, coefs, polynomial string }{
		{"2", "0 1", "-2 0 1"},
		{"2", "1 1", "-1 -2 1"},
		{"5", "1/2 1/2", "-1 -1 1"},
		{"3/4", "1/3 2", "-26/9 -2/3 1"},
		{"2, 3 0", "0 1 1 0", "1 0 -10 0 1"},
		{"2, 3 0", "0 0 0 1", "-6 0 1"},
		{"2, 1 1", "0 0 1 0", "-1 0 -2 0 1"},
		{"2, 3 1, 3 -1 0 0", "0 0 0 0 0 0 1 0", "-7 0 1"},
		{"2, 3 0, 5 0 0 0", "0 1 1 0 1 0 0 0", "576 0 -960 0 352 0 -40 0 1"},
		// The square root of 3 + sqrt 2 in a tower with its conjugate, whose square roots are those of 7 and 6 + 2 sqrt 7.
		{"7, 6 2, 2 0 0 0", "0 0 1/2 0 0 0 3/4 -1/4", "7 0 -6 0 1"},
	} {
		a := api.Number{Radicands: sample.Lists(row.radicands), Coefs: sample.Of(row.coefs)}
		want := sample.Of(row.polynomial)
		for d := 1; d < len(want)-1; d *= 2 {
			if f, ok := annihilator(a, d); ok {
				t.Errorf("P9.1: %v: a root of %s", row, sample.Show(f))
			}
		}
		f, ok := annihilator(a, len(want)-1)
		if !ok || !same(f, want) || !tower.Zero(valueAt(want, a)) {
			t.Errorf("P9.1: %v: %s, %v", row, sample.Show(f), ok)
		}
		if more, _ := Add(a, FromInt(1)); tower.Zero(valueAt(want, more)) {
			t.Errorf("P9.1: %v: 1 more is a root, too", row)
		}
	}
}
