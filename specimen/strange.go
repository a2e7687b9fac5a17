package specimen

import (
	"setsquare/api"
	"setsquare/rational"
	"setsquare/sample"
)

// Strange returns values that are not valid numbers.
func Strange() []api.Number {
	l := []api.Number{
		{},
		{Coefs: sample.Of("1 2")},
		{Coefs: make([]api.Rat, 1)},
		{Radicands: make([][]api.Rat, 1)},
		{Radicands: make([][]api.Rat, 70), Coefs: sample.Of("1")},
		{Radicands: [][]api.Rat{make([]api.Rat, 1)}, Coefs: sample.Of("1 2")},
	}
	for _, row := range [][2]string{
		{"4", "2 -1"}, {"-2", "1 1"}, {"0", "0 1"}, {"2", "1 2 3"}, {"2", "1"}, {"2 3", "1 2"}, {"", ""},
		{"2, 8 0", "0 2 -1 0"}, {"2, 3", "1 2 3 4"}, {"2, 1 -1", "1 2 3 4"}, {"-1, -1 0", "1 1 1 1"}, {"2, 3 0", "1 2 3"},
		{"2, 3 0, 6 0 0 0", "0 0 0 1 1 0 0 0"}, {"4, 1 1, 5 1 1 -1", "0 0 0 1 1 0 0 -1"},
	} {
		l = append(l, Of(row[0], row[1]))
	}
	for _, c := range sample.Abnormal() {
		two := rational.FromInt(2)
		l = append(l,
			api.Number{Coefs: []api.Rat{c}},
			api.Number{Radicands: sample.Lists("2"), Coefs: []api.Rat{two, c}},
			api.Number{Radicands: [][]api.Rat{{c}}, Coefs: sample.Of("1 1")},
			api.Number{Radicands: [][]api.Rat{{two}, {c, two}}, Coefs: sample.Of("1 1 0 1")},
			api.Number{Radicands: [][]api.Rat{{two}, {two, c}}, Coefs: []api.Rat{c, two, c, two}},
		)
	}
	return l
}
