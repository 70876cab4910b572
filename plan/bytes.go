package plan

import (
	"cmp"

	"chaff/api"
	"chaff/octet"
)

// How many bytes a plan's numbers have.
const (
	ofMode    = 1
	ofPrec    = 1
	ofLength  = 2
	ofQueue   = 1
	ofPart    = 4 // each of a ratio's two
	ofLaw     = 8 // each of a law's two
	ofMu      = 4
	ofMany    = 1 // how many classes there are, or contacts
	ofContact = 8
)

// numbers takes a number on its way, and how many bytes it has, and hands it on, or another one in its place.
type numbers func(v uint64, n int) uint64

// Encode is a plan's bytes.
func (p Plan) Encode() (string, api.Errno) {
	if e := p.Check(); e != api.OK {
		return "", e
	}
	var out []byte
	p.each(func(v uint64, n int) uint64 {
		// No number of a plan that may be has more bytes, so that Put doesn't go wrong.
		s, _ := octet.Put(v, n)
		out = append(out, s...)
		return v
	})
	return string(out), api.OK
}

// Decode is the plan of bytes.
func Decode(s string) (Plan, api.Errno) {
	at, fault := 0, api.OK
	// Behind a fault Take answers noughts, so that no more classes or contacts are told.
	p := Plan{}.each(func(_ uint64, n int) uint64 {
		// Just a number's own bytes are handed over, as what is behind would be copied each time.
		end := min(at+n, len(s))
		v, _, e := octet.Take(s[at:end], n)
		at, fault = end, cmp.Or(fault, e)
		return v
	})
	if e := cmp.Or(fault, octet.End(s[at:]), p.Check()); e != api.OK {
		return Plan{}, e
	}
	return p, api.OK
}

// each hands over all numbers of a plan's bytes, one behind the other, and answers the plan of those that are handed back. So what is written and what is read have one order.
func (p Plan) each(number numbers) Plan {
	ratio := func(r Ratio) Ratio {
		num := number(uint64(r.Num), ofPart)
		den := number(uint64(r.Den), ofPart)
		return Ratio{uint32(num), uint32(den)}
	}
	cost := func(c Cost) Cost {
		eps := ratio(c.Eps)
		delta := ratio(c.Delta)
		return Cost{eps, delta}
	}
	contact := func(c uint64) uint64 { return number(c, ofContact) }
	var out Plan
	out.Mode = Mode(number(uint64(p.Mode), ofMode))
	out.Prec = int(number(uint64(p.Prec), ofPrec))
	out.Length = int(number(uint64(p.Length), ofLength))
	out.Queue = int(number(uint64(p.Queue), ofQueue))
	out.Slack = ratio(p.Slack)
	out.Global = cost(p.Global)
	out.Contact = cost(p.Contact)
	out.Tau = ratio(p.Tau)
	out.Noise.Num = number(p.Noise.Num, ofLaw)
	out.Noise.Den = number(p.Noise.Den, ofLaw)
	out.Noise.Mu = int(number(uint64(p.Noise.Mu), ofMu))
	out.Classes = list(p.Classes, number, cost)
	out.Contacts = list(p.Contacts, number, contact)
	return out
}

// list hands over how many a list has, and then each one; the list of those that are handed back is a new one.
func list[T any](l []T, number numbers, one func(T) T) []T {
	out := make([]T, number(uint64(len(l)), ofMany))
	copy(out, l)
	for i, x := range out {
		out[i] = one(x)
	}
	return out
}
