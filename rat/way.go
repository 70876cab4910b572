package rat

import (
	"chaff/api"
	"chaff/nat"
)

// way is the way to a fraction: the first error on it is its answer.
type way struct{ fault api.Errno }

// step is the number of a step on the way. Behind an error it may be any number: end doesn't answer it.
func (w *way) step(n nat.Nat, e api.Errno) nat.Nat {
	if w.fault == api.OK {
		w.fault = e
	}
	return n
}

// end is n over d in lowest terms, or what went wrong.
func (w way) end(n, d nat.Nat) (Rat, api.Errno) {
	switch w.fault {
	case api.OK:
		if !d.Zero() {
			return lowest(n, d), api.OK
		}
		w.fault = api.ErrZero
		fallthrough
	default:
		return Rat{}, w.fault
	}
}
