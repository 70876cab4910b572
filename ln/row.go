package ln

import (
	"iter"

	"chaff/nat"
	"chaff/rat"
	"chaff/span"
)

// sum is that of the row of u by P q.
func sum(u rat.Rat, q int) span.Span {
	// What all members behind the last one may come to is less than 1: each is far below the one ahead of it.
	s := span.Span{Hi: nat.Of(1), P: q}
	for by, member := range row(u, q) {
		part, _ := rat.Of(1, by)
		member, _ = member.Scale(part)
		s, _ = s.Add(member)
	}
	return s
}

// row is u's members by P q, up to the last one, each behind what it is to be divided by.
func row(u rat.Rat, q int) iter.Seq2[uint64, span.Span] {
	return func(yield func(by uint64, member span.Span) bool) {
		one := nat.Of(1)
		w, _ := span.Exact(u, q)
		square, _ := w.Mul(w)
		// The first member is never the last one, however small it is.
		more := yield(1, w)
		for by := uint64(3); more; by += 2 {
			w, _ = w.Mul(square)
			more = yield(by, w) && w.Hi.Cmp(one) > 0
		}
	}
}
