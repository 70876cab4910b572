package rat

import (
	"strings"

	"chaff/api"
	"chaff/nat"
)

const stroke = "/"

// Parse is the fraction of a text.
func Parse(s string) (Rat, api.Errno) {
	if strings.Count(s, stroke) != 1 {
		return Rat{}, api.ErrForm
	}
	ahead, behind, _ := strings.Cut(s, stroke)
	var w way
	n := w.step(nat.Parse(ahead))
	d := w.step(nat.Parse(behind))
	return w.end(n, d)
}

// String is a fraction's text.
func (a Rat) String() string { return a.num.String() + stroke + a.Den().String() }
