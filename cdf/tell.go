package cdf

import (
	"chaff/api"
	"chaff/exp"
	"chaff/nat"
	"chaff/noise"
	"chaff/rat"
	"chaff/span"
)

// teller tells a span, or what went wrong.
type teller func() (span.Span, api.Errno)

// step makes a span of another one.
type step func(s span.Span) (span.Span, api.Errno)

// along is what comes of what is told and of steps, one behind the other, up to the first that goes wrong.
func along(tell teller, steps ...step) (span.Span, api.Errno) {
	s, e := tell()
	for _, next := range steps {
		if e != api.OK {
			return span.Span{}, e
		}
		s, e = next(s)
	}
	return s, e
}

// with is the step that joins what is told with the span, in this order.
func with(tell teller, join func(a, b span.Span) (span.Span, api.Errno)) step {
	return func(s span.Span) (span.Span, api.Errno) {
		return along(tell, func(told span.Span) (span.Span, api.Errno) { return join(told, s) })
	}
}

// atMost tells the chance that a count is at most x.
func atMost(l noise.Law, x, p int) teller {
	return func() (span.Span, api.Errno) { return AtMost(l, x, p) }
}

// tail tells the chance that a noise is n or more, or as far below 0, of an n from 1 on: e to the less g n, over 1 and e to the less g.
func tail(l noise.Law, n uint64, p int) teller {
	return func() (span.Span, api.Errno) {
		return along(power(l, 1, p), whole(p).Add, span.Span.Invert, with(power(l, n, p), span.Span.Mul))
	}
}

// power tells e to the less g n, where g is the law's Num over its Den.
func power(l noise.Law, n uint64, p int) teller {
	return func() (span.Span, api.Errno) {
		// Num times n may have more bits than a word, but has few for a number.
		times, _ := nat.Of(l.Num).Mul(nat.Of(n))
		x, _ := rat.New(times, nat.Of(l.Den))
		return exp.Minus(x, p)
	}
}
