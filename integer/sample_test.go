package integer_test

import (
	"encoding/binary"
	"math/big"
	"slices"
	"testing"

	"setsquare/api"
)

// A source yields the same numbers in every run.
type source uint64

func (s *source) word() uint32 {
	*s = *s*6364136223846793005 + 1442695040888963407
	return uint32(*s >> 32)
}

func (s *source) below(n int) int { return int(s.word() % uint32(n)) }

// integer returns an integer in normal form with up to a number of words, many of which are near the ends of the
// range of a word or near its middle, where carries and estimates of quotients are critical.
func (s *source) integer(words int) api.Int {
	critical := []uint32{0, 1, 2, 1<<31 - 1, 1 << 31, 1<<31 + 1, 1<<32 - 2, 1<<32 - 1}
	mag := make([]uint32, s.below(words+1))
	plain := s.below(3) == 0
	for i := range mag {
		mag[i] = s.word()
		if !plain && s.below(4) > 0 {
			mag[i] = critical[s.below(len(critical))]
		}
	}
	if n := len(mag); n > 0 && mag[n-1] == 0 {
		mag[n-1] = 1
	}
	return api.Int{Neg: len(mag) > 0 && s.below(2) == 0, Mag: mag}
}

// loose returns another form of an integer, which is not normal.
func loose(a api.Int) api.Int {
	return api.Int{Neg: a.Neg || len(a.Mag) == 0, Mag: append(slices.Clone(a.Mag), 0, 0)}
}

// number returns the value of an integer of any form.
func number(a api.Int) *big.Int {
	bytes := make([]byte, 0, 4*len(a.Mag))
	for _, w := range slices.Backward(a.Mag) {
		bytes = binary.BigEndian.AppendUint32(bytes, w)
	}
	n := new(big.Int).SetBytes(bytes)
	if a.Neg {
		n.Neg(n)
	}
	return n
}

// normal reports whether an integer is in normal form, by the definition.
func normal(a api.Int) bool {
	n := len(a.Mag)
	return n == 0 && !a.Neg || n > 0 && a.Mag[n-1] != 0
}

// expect checks that a result is the normal form of a number.
func expect(t *testing.T, what string, got api.Int, want *big.Int) {
	t.Helper()
	if !normal(got) {
		t.Fatalf("%s: %v is not in normal form", what, got)
	}
	if number(got).Cmp(want) != 0 {
		t.Fatalf("%s: got %.60v, want %.60v", what, number(got), want)
	}
}

// zero checks the result together with an error.
func zero(t *testing.T, what string, a api.Int) {
	t.Helper()
	if a.Neg || len(a.Mag) != 0 {
		t.Errorf("%s: got %v with an error", what, a)
	}
}

// same reports whether two integers have the same form.
func same(a, b api.Int) bool { return a.Neg == b.Neg && slices.Equal(a.Mag, b.Mag) }
