package rat

import (
	"chaff/api"
	"chaff/nat"
)

// The chapter names the numbers by which an answer is too great. So they are reckoned as it names them, in full, though with common divisors taken out first some answers that are too great would fit.

// Add is the sum.
func (a Rat) Add(b Rat) (Rat, api.Errno) { return a.across(b, nat.Nat.Add) }

// Sub is the difference.
func (a Rat) Sub(b Rat) (Rat, api.Errno) {
	if a.Cmp(b) < 0 {
		return Rat{}, api.ErrSign
	}
	return a.across(b, nat.Nat.Sub)
}

// across joins both, brought to one number below.
func (a Rat) across(b Rat, join func(x, y nat.Nat) (nat.Nat, api.Errno)) (Rat, api.Errno) {
	var w way
	ad := w.step(a.num.Mul(b.Den()))
	cb := w.step(b.num.Mul(a.Den()))
	n := w.step(join(ad, cb))
	bd := w.step(a.Den().Mul(b.Den()))
	return w.end(n, bd)
}

// Mul is the product.
func (a Rat) Mul(b Rat) (Rat, api.Errno) {
	var w way
	ac := w.step(a.num.Mul(b.num))
	bd := w.step(a.Den().Mul(b.Den()))
	return w.end(ac, bd)
}

// Div is the quotient.
func (a Rat) Div(b Rat) (Rat, api.Errno) {
	if b.Zero() {
		return Rat{}, api.ErrZero
	}
	var w way
	ad := w.step(a.num.Mul(b.Den()))
	bc := w.step(a.Den().Mul(b.num))
	return w.end(ad, bc)
}

// Floor is the greatest number that isn't above a times 2^p.
func (a Rat) Floor(p int) (nat.Nat, api.Errno) {
	q, _, e := a.whole(p)
	return q, e
}

// Ceil is the least number that isn't below a times 2^p.
func (a Rat) Ceil(p int) (nat.Nat, api.Errno) {
	q, left, e := a.whole(p)
	if e != api.OK || left.Zero() {
		return q, e
	}
	return q.Add(nat.Of(1))
}

// whole is the whole part of a times 2^p, and what is left above.
func (a Rat) whole(p int) (q, left nat.Nat, e api.Errno) {
	if p < 0 || p > api.MaxBits {
		return nat.Nat{}, nat.Nat{}, api.ErrRange
	}
	n, e := a.num.Shl(p)
	if e != api.OK {
		return nat.Nat{}, nat.Nat{}, e
	}
	return n.Div(a.Den())
}
