package exp

import (
	"chaff/api"
	"chaff/nat"
	"chaff/rat"
	"chaff/span"
)

// spare is how many bits more than asked for the terms have. All that is rounded on the way comes to less than what these bits hold, so the span that is cut has at most 2 between its ends.
const spare = 128

// reckoning is the sum of the terms so far: what a span can it can, too.
//
// It is for an x that is neither wide nor above MaxExp: then e to the x has at most 93 bits ahead of the point, so that no term, times x's number above, comes near to MaxBits, and nothing here goes wrong.
type reckoning struct {
	span.Span           // the sum
	term      span.Span // the term that was added last
	x         rat.Rat
}

// power is e to the x, by P p, of an x that is neither wide nor above MaxExp.
func power(x rat.Rat, p int) (span.Span, api.Errno) {
	r := first(x, p+spare)
	r.terms()
	r.rest()
	return r.Cut(p)
}

// first is the reckoning by P q that has the 0th term alone.
func first(x rat.Rat, q int) reckoning {
	one, _ := nat.Of(1).Shl(q)
	term := span.Span{Lo: one, Hi: one, P: q}
	return reckoning{Span: term, term: term, x: x}
}

// terms adds all terms behind the 0th, up to the last one.
func (r *reckoning) terms() {
	one, from := nat.Of(1), least(r.x)
terms:
	for k := uint64(1); ; k++ {
		r.next(k)
		switch {
		case nat.Of(k).Cmp(from) < 0:
			// Even behind a small term there may be greater ones yet.
			continue terms
		case r.term.Hi.Cmp(one) <= 0:
			break terms
		}
	}
}

// next adds the k-th term.
//
// What is rounded by d, then by k, is as if rounded by d times k at once: whole numbers divided twice, both times down or both times up, come to the same.
func (r *reckoning) next(k uint64) {
	part, _ := rat.Of(1, k)
	r.term, _ = r.term.Scale(r.x)
	r.term, _ = r.term.Scale(part)
	r.Span, _ = r.Add(r.term)
}

// rest adds what all terms behind the last one may come to: each is at most half of the one ahead of it, so they are no more than the last one.
func (r *reckoning) rest() {
	r.Span, _ = r.Add(span.Span{Hi: r.term.Hi, P: r.P})
}

// least is the least k that the last term may have: 2 more than twice the least whole number that isn't below x.
func least(x rat.Rat) nat.Nat {
	whole, _ := x.Ceil(0)
	twice, _ := whole.Shl(1)
	k, _ := twice.Add(nat.Of(2))
	return k
}
