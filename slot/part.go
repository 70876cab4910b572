package slot

import (
	"iter"

	"chaff/api"
	"chaff/disk"
	"chaff/seal"
)

// The kinds of a slot's records.
const (
	inner = 2
	last  = 3
)

const (
	octet = 8 // how many bits a byte has
	ofSum = 4 // how many bytes the sum has behind a text
)

// parts goes over the records in which a text is to lie.
func parts(gen uint64, text string) iter.Seq[seal.Record] {
	return func(yield func(r seal.Record) bool) {
		rest := text + foot(text)
		for i := uint32(0); rest != ""; i++ {
			n := min(len(rest), seal.Most)
			r := seal.Record{Kind: inner, Gen: gen, Index: i, Data: rest[:n]}
			if rest = rest[n:]; rest == "" {
				r.Kind = last
			}
			if !yield(r) {
				return
			}
		}
	}
}

// found goes over the records in which a text may lie, up to its last one, or to where one is missing.
func found(d *disk.Disk, from, room int) iter.Seq[seal.Record] {
	return func(yield func(r seal.Record) bool) {
		var gen uint64
		next := 0
		for i, r := range opened(d, from, room) {
			if i == 0 {
				gen = r.Gen
			}
			if i != next || r.Index != uint32(i) || r.Gen != gen || !whole(r) {
				return
			}
			if !yield(r) || r.Kind == last {
				return
			}
			next++
		}
	}
}

// opened goes over the records of a slot's sectors, each behind its sector's place in the slot. Of what is no slot there are none.
func opened(d *disk.Disk, from, room int) iter.Seq2[int, seal.Record] {
	return func(yield func(place int, r seal.Record) bool) {
		if !lies(d, from, room) {
			return
		}
		for i := range room {
			s, _ := d.Read(from + i)
			if r, e := seal.Open(s); e == api.OK && !yield(i, r) {
				return
			}
		}
	}
}

// whole tells whether a record has as much of a text as one of its kind has: only the last part may be shorter, and none is empty.
func whole(r seal.Record) bool {
	switch r.Kind {
	case inner:
		return len(r.Data) == seal.Most
	case last:
		return r.Data != ""
	}
	return false
}

// foot is the sum of a text as bytes.
func foot(text string) string {
	sum := seal.Sum(text)
	out := make([]byte, ofSum)
	for i := range out {
		out[i] = byte(sum >> (octet * i))
	}
	return string(out)
}
