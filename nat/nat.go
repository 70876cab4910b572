// Package nat is layer 1: whole numbers from 0 on, of at most api.MaxBits bits. See shared/doc/01-nat.md.
package nat

import (
	"cmp"
	"math/bits"

	"chaff/api"
)

// most is how many words a number has at most: MaxBits is a whole number of words, so that no bits within one need be counted.
const most = api.MaxBits / 64

// Nat is a whole number from 0 on: its words, the least first, the last one not 0.
type Nat struct {
	// Numbers may share words, so nobody writes into these once the number is made. 0 has nil.
	words []uint64
}

// Of is a number.
func Of(n uint64) Nat {
	a, _ := made([]uint64{n})
	return a
}

// From is the number of words.
func From(words []uint64) (Nat, api.Errno) {
	w := trim(words)
	if len(w) > most {
		return Nat{}, api.ErrLimit
	}
	return made(clone(w))
}

// made is the number of words that nobody else writes into.
func made(w []uint64) (Nat, api.Errno) {
	w = trim(w)
	switch {
	case len(w) > most:
		return Nat{}, api.ErrLimit
	case len(w) == 0:
		return Nat{}, api.OK
	}
	return Nat{w}, api.OK
}

// Words are a number's words.
func (a Nat) Words() []uint64 {
	if a.Zero() {
		return nil
	}
	return clone(a.words)
}

// Bits is how many bits a number has.
func (a Nat) Bits() int {
	if a.Zero() {
		return 0
	}
	last := len(a.words) - 1
	return 64*last + bits.Len64(a.words[last])
}

// Zero says whether a number is 0.
func (a Nat) Zero() bool { return len(a.words) == 0 }

// Cmp is which of two numbers is greater: -1, 0 or 1.
func (a Nat) Cmp(b Nat) int { return compare(a.words, b.words) }

// compare is Cmp of trimmed words.
func compare(a, b []uint64) int {
	if len(a) != len(b) {
		return cmp.Compare(len(a), len(b))
	}
	for i := range len(a) {
		high := len(a) - 1 - i
		if a[high] != b[high] {
			return cmp.Compare(a[high], b[high])
		}
	}
	return 0
}
