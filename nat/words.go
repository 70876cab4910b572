package nat

import "math/bits"

// trim is words without the noughts behind the last one that isn't 0.
func trim(w []uint64) []uint64 {
	for len(w) > 0 && w[len(w)-1] == 0 {
		w = w[:len(w)-1]
	}
	return w
}

// clone is words in new memory.
func clone(w []uint64) []uint64 { return widened(w, len(w)) }

// widened is words in new memory, with noughts behind, n in all.
func widened(w []uint64, n int) []uint64 {
	c := make([]uint64, n)
	copy(c, w)
	return c
}

// add adds b to w, which has as many words at least, and answers what is carried out of w.
func add(w, b []uint64) uint64 {
	var carry uint64
	for i := range len(b) {
		w[i], carry = bits.Add64(w[i], b[i], carry)
	}
	for i := range len(w) - len(b) {
		at := len(b) + i
		w[at], carry = bits.Add64(w[at], 0, carry)
	}
	return carry
}

// sub takes b from w, which has as many words at least, and answers what was borrowed from beyond w.
func sub(w, b []uint64) uint64 {
	var borrow uint64
	for i := range len(b) {
		w[i], borrow = bits.Sub64(w[i], b[i], borrow)
	}
	for i := range len(w) - len(b) {
		at := len(b) + i
		w[at], borrow = bits.Sub64(w[at], 0, borrow)
	}
	return borrow
}

// addTimes adds b times m to w, which has as many words, and answers what is carried out of w.
func addTimes(w, b []uint64, m uint64) uint64 {
	var carry, c uint64
	for i := range len(b) {
		high, low := bits.Mul64(b[i], m)
		low, c = bits.Add64(low, carry, 0)
		high += c
		w[i], c = bits.Add64(w[i], low, 0)
		carry = high + c
	}
	return carry
}

// subTimes takes b times m from w, which has as many words, and answers what was borrowed from beyond w.
func subTimes(w, b []uint64, m uint64) uint64 {
	var borrow, c uint64
	for i := range len(b) {
		high, low := bits.Mul64(b[i], m)
		low, c = bits.Add64(low, borrow, 0)
		high += c
		w[i], c = bits.Sub64(w[i], low, 0)
		borrow = high + c
	}
	return borrow
}

// timesPlus makes w w times m and n, and answers what is carried out of w.
func timesPlus(w []uint64, m, n uint64) uint64 {
	carry := n
	for i := range len(w) {
		high, low := bits.Mul64(w[i], m)
		low, c := bits.Add64(low, carry, 0)
		w[i], carry = low, high+c
	}
	return carry
}

// overWord divides w by d, which isn't 0, and answers what is left.
func overWord(w []uint64, d uint64) uint64 {
	var left uint64
	for i := range len(w) {
		high := len(w) - 1 - i
		w[high], left = bits.Div64(left, w[high], d)
	}
	return left
}

// raise moves w's bits up by n, from 0 to 63, and answers those that are moved out.
func raise(w []uint64, n int) uint64 {
	var out uint64
	for i := range len(w) {
		// A shift by 64 answers 0, as it should for n 0.
		w[i], out = w[i]<<n|out, w[i]>>(64-n)
	}
	return out
}

// lower moves w's bits down by n, from 0 to 63; those that are moved out are lost.
func lower(w []uint64, n int) {
	var in uint64
	for i := range len(w) {
		high := len(w) - 1 - i
		w[high], in = w[high]>>n|in, w[high]<<(64-n)
	}
}
