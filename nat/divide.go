package nat

import (
	"math"
	"math/bits"
)

// divide is the quotient of a by b, and what is left. It is for a that isn't below b, and b that isn't 0.
//
// It is long division, word by word. Both are first raised so far that b's highest bit is set: then each guess of a word is at most 2 too great.
func divide(a, b []uint64) (q, left []uint64) {
	shift := bits.LeadingZeros64(b[len(b)-1])
	d := clone(b)
	raise(d, shift)
	left = widened(a, len(a)+1)
	raise(left, shift)
	q = make([]uint64, len(a)-len(b)+1)
	for i := range len(q) {
		at := len(q) - 1 - i
		q[at] = quotientWord(left[at:at+len(d)+1], d)
	}
	lower(left, shift)
	return q, left
}

// quotientWord is how often d goes into w, which has one word more, and is below d moved up by a word; w becomes what is left.
func quotientWord(w, d []uint64) uint64 {
	n := len(d)
	m := guess(w[n], w[n-1], d[n-1])
	var c uint64
	w[n], c = bits.Sub64(w[n], subTimes(w[:n], d, m), 0)
	for c != 0 {
		m--
		c -= add(w, d)
	}
	return m
}

// guess is the quotient of two words by the highest one of d, or the greatest word, if that is less.
func guess(high, low, top uint64) uint64 {
	if high >= top {
		return math.MaxUint64
	}
	m, _ := bits.Div64(high, low, top)
	return m
}
