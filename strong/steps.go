package strong

import (
	"chaff/api"
	"chaff/exp"
	"chaff/ln"
	"chaff/nat"
	"chaff/plan"
	"chaff/rat"
	"chaff/span"
)

// step makes more of what there is so far, or tells what went wrong.
type step[T any] func(so T) (T, api.Errno)

// along is what comes of steps, one behind the other, up to the first that goes wrong.
func along[T any](so T, steps ...step[T]) (T, api.Errno) {
	var e api.Errno
	for _, next := range steps {
		if so, e = next(so); e != api.OK {
			var none T
			return none, e
		}
	}
	return so, api.OK
}

// withLn is the step that lays in the logarithm of 1 over the slack, by P q.
func withLn(slack plan.Ratio, q int) step[Consts] {
	over := plan.Ratio{Num: slack.Den, Den: slack.Num}
	return func(c Consts) (Consts, api.Errno) {
		y, e := over.Rat()
		if e != api.OK {
			return c, e
		}
		c.Ln, e = ln.Ln(y, q)
		return c, e
	}
}

// withExp is the step that lays in what e to the Eps of one more class is above 1, by P q.
func withExp(eps plan.Ratio, q int) step[Consts] {
	return func(c Consts) (Consts, api.Errno) {
		x, e := eps.Rat()
		if e != api.OK {
			return c, e
		}
		power, e := exp.Exp(x, q)
		if e != api.OK {
			return c, e
		}
		above, e := power.Sub(one(q))
		c.Exps = append(c.Exps, above)
		return c, e
	}
}

// one is 1, by P q.
func one(q int) span.Span {
	n, _ := nat.Of(1).Shl(q)
	return span.Span{Lo: n, Hi: n, P: q}
}

// scaled is the step that scales a span by a fraction, so many times.
func scaled(by rat.Rat, times uint64) step[span.Span] {
	return func(s span.Span) (span.Span, api.Errno) {
		count, _ := rat.Of(times, 1)
		all, e := by.Mul(count)
		if e != api.OK {
			return span.Span{}, e
		}
		return s.Scale(all)
	}
}

// plus is the step that adds what comes of another span by a step of its own.
func plus(other span.Span, first step[span.Span]) step[span.Span] {
	return func(s span.Span) (span.Span, api.Errno) { return along(other, first, s.Add) }
}

// cut is the step that cuts a span to P p.
func cut(p int) step[span.Span] {
	return func(s span.Span) (span.Span, api.Errno) { return s.Cut(p) }
}
