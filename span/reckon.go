package span

import (
	"chaff/api"
	"chaff/nat"
	"chaff/rat"
)

// Each call hands over what is done to an end as a function of whether that is Hi, which is rounded up, or Lo, which is rounded down. So what is true lies between both.

// spanned is the span of the P p whose ends do answers, or the first of its errors.
func spanned(p int, do func(up bool) (nat.Nat, api.Errno)) (Span, api.Errno) {
	var hi nat.Nat
	lo, e := do(false)
	switch e {
	case api.OK:
		if hi, e = do(true); e == api.OK {
			return Span{lo, hi, p}, api.OK
		}
		fallthrough
	default:
		return Span{}, e
	}
}

// pair says whether both may be, of one P.
func pair(a, b Span) bool { return a.May() && b.May() && a.P == b.P }

// Add is the sum.
func (a Span) Add(b Span) (Span, api.Errno) {
	if !pair(a, b) {
		return Span{}, api.ErrRange
	}
	return spanned(a.P, func(up bool) (nat.Nat, api.Errno) {
		return a.end(up).Add(b.end(up))
	})
}

// Sub is the difference, from 0 on.
func (a Span) Sub(b Span) (Span, api.Errno) {
	switch {
	case !pair(a, b):
		return Span{}, api.ErrRange
	case b.Lo.Cmp(a.Hi) > 0:
		return Span{}, api.ErrSign
	}
	return spanned(a.P, func(up bool) (nat.Nat, api.Errno) {
		from, what := a.end(up), b.end(!up)
		if what.Cmp(from) > 0 {
			return nat.Nat{}, api.OK
		}
		return from.Sub(what)
	})
}

// Mul is the product.
func (a Span) Mul(b Span) (Span, api.Errno) {
	if !pair(a, b) {
		return Span{}, api.ErrRange
	}
	return spanned(a.P, func(up bool) (nat.Nat, api.Errno) {
		return part(a.end(up), b.end(up), power(a.P), up)
	})
}

// Scale is a span times a fraction.
func (a Span) Scale(r rat.Rat) (Span, api.Errno) {
	if !a.May() {
		return Span{}, api.ErrRange
	}
	return spanned(a.P, func(up bool) (nat.Nat, api.Errno) {
		return part(a.end(up), r.Num(), r.Den(), up)
	})
}

// Invert is 1 over a span.
func (a Span) Invert() (Span, api.Errno) {
	switch {
	case !a.May():
		return Span{}, api.ErrRange
	case a.Lo.Zero():
		return Span{}, api.ErrZero
	}
	one := power(a.P)
	return spanned(a.P, func(up bool) (nat.Nat, api.Errno) {
		return part(one, one, a.end(!up), up)
	})
}

// Cut is a span of a lesser P.
func (a Span) Cut(p int) (Span, api.Errno) {
	if !a.May() || p < 0 || p > a.P {
		return Span{}, api.ErrRange
	}
	return spanned(p, func(up bool) (nat.Nat, api.Errno) {
		return part(a.end(up), nat.Of(1), power(a.P-p), up)
	})
}

// part is n times m, over d, which isn't 0, as a whole number: up or down. What is left tells whether to go up: a sum ahead of the division might have too many bits.
func part(n, m, d nat.Nat, up bool) (nat.Nat, api.Errno) {
	product, e := n.Mul(m)
	if e != api.OK {
		return nat.Nat{}, e
	}
	q, left, e := product.Div(d)
	if e != api.OK || !up || left.Zero() {
		return q, e
	}
	return q.Add(nat.Of(1))
}

// power is 2^p, of p from 0 to Deepest.
func power(p int) nat.Nat {
	n, _ := nat.Of(1).Shl(p)
	return n
}
