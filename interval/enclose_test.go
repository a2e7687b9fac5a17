package interval

import (
	"testing"

	"setsquare/api"
	"setsquare/rational"
)

// P3.1: the ends of results are the least and the greatest one of any number of numbers, in any order.
func TestEnclose(t *testing.T) {
	f := rational.Frac
	for i, c := range []struct {
		numbers   []api.Rat
		low, high string
	}{
		{[]api.Rat{f(1, 2)}, "1/2", "1/2"},
		{[]api.Rat{f(1, 2), f(1, 2)}, "1/2", "1/2"},
		{[]api.Rat{f(1, 2), f(-1, 3)}, "-1/3", "1/2"},
		{[]api.Rat{f(0, 1), f(1, 3), f(-7, 2)}, "-7/2", "1/3"},
		{[]api.Rat{f(5, 1), f(4, 1), f(3, 1), f(4, 1), f(6, 1), f(2, 1)}, "2", "6"},
		{[]api.Rat{f(-5, 1), f(-4, 1), f(-3, 1), f(-4, 1), f(-6, 1)}, "-6", "-3"},
	} {
		got := enclose(c.numbers...)
		if rational.Format(got.Low) != c.low || rational.Format(got.High) != c.high {
			t.Errorf("P3.1: row %d: got %v", i, got)
		}
	}
	if got := enclose(); Valid(got) || rational.Valid(got.Low) || rational.Valid(got.High) {
		t.Errorf("P3.1: no numbers: got %v", got)
	}
}
