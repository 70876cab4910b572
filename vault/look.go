package vault

import (
	"chaff/api"
	"chaff/disk"
	"chaff/log"
	"chaff/seal"
	"chaff/slot"
)

// sight is what all sectors of a disk tell.
type sight struct {
	blank  bool   // all are
	broken bool   // one is neither blank nor opens
	logged uint64 // the greatest generation of the log's records, 0 if there are none
}

// look looks at all sectors of a disk, of which the log has those from one on.
func look(d *disk.Disk, from int) sight {
	s := sight{blank: true}
	for i := range d.Size() {
		text, _ := d.Read(i)
		r, e := seal.Open(text)
		switch {
		case e == api.ErrNone:
			continue
		case e != api.OK:
			s.broken = true
		case i >= from && r.Kind == log.Kind:
			s.logged = max(s.logged, r.Gen)
		}
		s.blank = false
	}
	return s
}

// found is the slot in which the text lies, if one is whole.
type found struct {
	slot  int
	gen   uint64
	text  string
	whole bool
}

// newest is the newest whole slot.
func newest(d *disk.Disk, n int) found {
	begin := slots(n)
	var best found
	for which := range both {
		text, gen, ok := slot.Read(d, begin(which), n)
		if ok && (!best.whole || gen > best.gen) {
			best = found{slot: which, gen: gen, text: text, whole: true}
		}
	}
	return best
}

// rotten tells whether a disk that isn't blank is rotten.
func rotten(s sight, best found) bool {
	switch {
	case s.broken:
		fallthrough
	case !best.whole:
		fallthrough
	case s.logged > best.gen: // the slot that had been newer is gone
		return true
	}
	return false
}
