package govern

import (
	"errors"

	"chaff/api"
	"chaff/audit"
	"chaff/news"
	"chaff/tape"
)

// Result is what comes of a round.
type Result struct {
	Err         api.Errno
	Taken, Real bool
	Envelope    string
}

// Round is what comes of a round.
func (g *Governor) Round(s string, t tape.Tape) Result {
	r, cover, e := g.look(s, t)
	if e != api.OK {
		return Result{Err: e}
	}
	g.last = r.Number
	return g.send(r, cover)
}

// look is the round that is told, and the cover that is drawn for it; or why it is refused.
func (g *Governor) look(s string, t tape.Tape) (news.Round, string, api.Errno) {
	r, e := news.OpenRound(s)
	switch {
	case e != api.OK:
		return news.Round{}, "", e
	case int(r.Class) >= len(g.plan.Classes):
		return news.Round{}, "", api.ErrClass
	case r.Number <= g.last:
		return news.Round{}, "", api.ErrOld
	}
	// Cover is drawn for real rounds, too, so that none is refused for what waits.
	cover, _, e := t.Bytes(g.plan.Length)
	return r, cover, e
}

// send is what comes of a round that is taken.
func (g *Governor) send(r news.Round, cover string) Result {
	contact := int(r.Number % uint64(len(g.plan.Contacts)))
	use := g.uses(r, contact)
	var x Trouble
	switch err := g.enter(r, contact, use); {
	case errors.As(err, &x):
		// The payload waits on, though the use may be counted.
		g.why = x
		fallthrough
	case !use:
		return Result{Taken: true, Envelope: cover}
	}
	var head string
	g.queues, head, _ = g.queues.Pop(contact)
	return Result{Taken: true, Real: true, Envelope: head}
}

// uses tells whether a round is real, and so has a use.
func (g *Governor) uses(r news.Round, contact int) bool {
	return g.Open() &&
		g.book.On(r.Epoch) == audit.Accept &&
		g.queues.Len(contact) > 0 &&
		g.ledger.Purse().Affords(g.ledger.Table(), contact, int(r.Class))
}

// enter enters a round, with a use or without, if there is a ledger.
func (g *Governor) enter(r news.Round, contact int, use bool) error {
	switch {
	case !g.Open():
		return nil
	case use:
		return under(atRound, g.ledger.Use(r.Number, contact, int(r.Class)))
	}
	return under(atRound, g.ledger.Enter(r.Number))
}
