package audit

import (
	"slices"

	"chaff/api"
)

// Book is verdicts on epochs.
type Book struct {
	posts []post // in the order in which they came, no two of one epoch
}

// post is a verdict on an epoch.
type post struct {
	epoch   uint32
	verdict Verdict
}

// Post is a book with a verdict more.
func (b Book) Post(epoch uint32, v Verdict) (Book, api.Errno) {
	switch {
	case v < Accept || v > Unclear:
		return b, api.ErrRange
	case b.On(epoch) != None:
		return b, api.ErrState
	case b.Len() >= api.MaxEpochs:
		return b, api.ErrFull
	}
	// Books that are gone on with twice don't write over one another.
	return Book{append(slices.Clip(b.posts), post{epoch, v})}, api.OK
}

// On is the verdict on an epoch.
func (b Book) On(epoch uint32) Verdict {
	for _, p := range b.posts {
		if p.epoch == epoch {
			return p.verdict
		}
	}
	return None
}

// Len is how many verdicts there are.
func (b Book) Len() int { return len(b.posts) }
