package nat

import (
	"slices"

	"chaff/api"
)

// Decimal digits are read and written so many at once: as many as a word surely holds.
const (
	group = 19
	tens  = 10_000_000_000_000_000_000 // 10 to the group
)

// Parse is the number of decimal digits.
func Parse(s string) (Nat, api.Errno) {
	// All is looked at first, as a wrong byte far behind comes before the limit.
	if !decimal(s) {
		return Nat{}, api.ErrForm
	}
	var w []uint64
	value, scale := uint64(0), uint64(1)
	for i := range len(s) {
		value = value*10 + uint64(s[i]-'0')
		scale *= 10
		if scale < tens && i < len(s)-1 {
			continue
		}
		if carry := timesPlus(w, scale, value); carry != 0 {
			w = append(w, carry)
		}
		if len(w) > most {
			return Nat{}, api.ErrLimit
		}
		value, scale = 0, 1
	}
	return made(w)
}

// decimal says whether a text is a number's decimal digits, without noughts ahead.
func decimal(s string) bool {
	if s == "" || s[0] == '0' && len(s) > 1 {
		return false
	}
	for i := range len(s) {
		switch s[i] {
		case '0', '1', '2', '3', '4', '5', '6', '7', '8', '9':
		default:
			return false
		}
	}
	return true
}

// String is a number's decimal digits.
func (a Nat) String() string {
	if a.Zero() {
		return "0"
	}
	var text []byte // the lowest digit first
	for w := clone(a.words); len(w) > 0; w = trim(w) {
		value := overWord(w, tens)
		for range group {
			text = append(text, byte('0'+value%10))
			value /= 10
		}
	}
	for text[len(text)-1] == '0' {
		text = text[:len(text)-1]
	}
	slices.Reverse(text)
	return string(text)
}
