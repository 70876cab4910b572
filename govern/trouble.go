package govern

import (
	"errors"

	"chaff/api"
)

// The words under which something goes wrong.
const (
	atOpen  = "open"
	atRound = "round"
)

// Trouble is where something went wrong, and what.
type Trouble struct {
	Where string
	Err   error
}

// Error is the word, and the error's.
func (t Trouble) Error() string {
	// A trouble of somebody else's may be without an error, and so without its word.
	if t.Err == nil {
		return t.Where + ": "
	}
	return t.Where + ": " + t.Err.Error()
}

// Unwrap is the error.
func (t Trouble) Unwrap() error { return t.Err }

// under is an error under a word; nil, if nothing went wrong. An OK isn't nil as an error, so that it is looked for.
func under(where string, err error) error {
	if errors.Is(err, api.OK) {
		return nil
	}
	return Trouble{Where: where, Err: err}
}
