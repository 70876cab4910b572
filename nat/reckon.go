package nat

import "chaff/api"

// Add is the sum.
func (a Nat) Add(b Nat) (Nat, api.Errno) {
	s := widened(a.words, max(len(a.words), len(b.words))+1)
	add(s, b.words)
	return made(s)
}

// Sub is the difference.
func (a Nat) Sub(b Nat) (Nat, api.Errno) {
	if a.Cmp(b) < 0 {
		return Nat{}, api.ErrSign
	}
	d := clone(a.words)
	sub(d, b.words)
	return made(d)
}

// Mul is the product.
func (a Nat) Mul(b Nat) (Nat, api.Errno) {
	p := make([]uint64, len(a.words)+len(b.words))
	for i := range len(a.words) {
		end := i + len(b.words)
		p[end] = addTimes(p[i:end], b.words, a.words[i])
	}
	return made(p)
}

// Div is the quotient, and what is left.
func (a Nat) Div(b Nat) (q, r Nat, e api.Errno) {
	switch {
	case b.Zero():
		return Nat{}, Nat{}, api.ErrZero
	case a.Cmp(b) < 0:
		return Nat{}, a, api.OK
	}
	quotient, left := divide(a.words, b.words)
	r, _ = made(left)
	q, e = made(quotient)
	return q, r, e
}

// Shl is a number times a power of 2.
func (a Nat) Shl(n int) (Nat, api.Errno) {
	switch {
	case n < 0:
		return Nat{}, api.ErrRange
	case a.Zero():
		return a, api.OK
	case n > api.MaxBits-a.Bits():
		return Nat{}, api.ErrLimit
	}
	whole := n / 64
	w := make([]uint64, whole+len(a.words)+1)
	copy(w[whole:], a.words)
	raise(w[whole:], n%64)
	return made(w)
}

// Shr is a number divided by a power of 2.
func (a Nat) Shr(n int) (Nat, api.Errno) {
	switch {
	case n < 0:
		return Nat{}, api.ErrRange
	case n >= a.Bits():
		return Nat{}, api.OK
	}
	w := clone(a.words[n/64:])
	lower(w, n%64)
	return made(w)
}
