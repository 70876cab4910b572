package audit

import (
	"cmp"

	"chaff/api"
	"chaff/cdf"
	"chaff/nat"
	"chaff/plan"
	"chaff/rat"
	"chaff/span"
	"chaff/tally"
)

// stand is how the part up to a point stands to the chance that a count is at most that point.
type stand struct {
	part   rat.Rat
	lo, hi rat.Rat // the chance is from lo to hi
	tau    rat.Rat // how far apart part and chance may be
}

// look is how things stand at the point x.
func look(p plan.Plan, t tally.Tally, x int) (stand, api.Errno) {
	f, e := cdf.AtMost(p.Noise, x, p.Prec)
	lo, hi, g := ends(f)
	tau, h := p.Tau.Rat()
	if e := cmp.Or(e, g, h); e != api.OK {
		return stand{}, e
	}
	return stand{t.Part(x), lo, hi, tau}, api.OK
}

// ends are both ends of a span, over 2 to its P.
func ends(f span.Span) (lo, hi rat.Rat, e api.Errno) {
	unit, e := nat.Of(1).Shl(f.P)
	lo, g := rat.New(f.Lo, unit)
	hi, h := rat.New(f.Hi, unit)
	return lo, hi, cmp.Or(e, g, h)
}

// verdict is what is held of noise by one point alone: Reject, if it is far, Accept, if it is near.
func (s stand) verdict() Verdict {
	switch {
	case s.above(s.part, s.hi):
		fallthrough
	case s.above(s.lo, s.part):
		return Reject
	case s.above(s.part, s.lo):
		fallthrough
	case s.above(s.hi, s.part):
		return Unclear
	}
	return Accept
}

// above tells whether a is above b and tau together. Here all numbers have so few bits that no sum is too great.
func (s stand) above(a, b rat.Rat) bool {
	most, _ := b.Add(s.tau)
	return a.Cmp(most) > 0
}
