package nat

import "math/bits"

// Gcd is the greatest number that divides both; of 0 and b it is b.
func (a Nat) Gcd(b Nat) Nat {
	switch {
	case a.Zero():
		return b
	case b.Zero():
		return a
	}
	twos := min(evens(a.words), evens(b.words))
	// The answer divides both, so it has no more bits than they have.
	g, _ := made(oddGcd(odd(a.words), odd(b.words)))
	g, _ = g.Shl(twos)
	return g
}

// oddGcd is the greatest number that divides two odd ones, whose words it writes into. Whatever divides both divides their difference, and that is even: so it needs no division but by 2.
func oddGcd(a, b []uint64) []uint64 {
	for {
		switch compare(a, b) {
		case 0:
			return a
		case -1:
			a, b = b, a
		}
		sub(a, b)
		a = halve(a)
	}
}

// evens is how often 2 divides what isn't 0.
func evens(w []uint64) int {
	n := 0
	for w[n] == 0 {
		n++
	}
	return 64*n + bits.TrailingZeros64(w[n])
}

// odd is w, which isn't 0, without its twos, in new memory.
func odd(w []uint64) []uint64 { return halve(clone(w)) }

// halve takes all twos out of w, which isn't 0, in its own memory.
func halve(w []uint64) []uint64 {
	n := evens(w)
	w = w[n/64:]
	lower(w, n%64)
	return trim(w)
}
