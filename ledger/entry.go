package ledger

import (
	"chaff/api"
	"chaff/octet"
	"chaff/table"
)

// The words of a record, by their places.
const (
	ofRound = iota
	ofUse   // 1, or 0, if there is none
	ofContact
	ofClass
	many // how many words there are
)

// wide is how many bytes each word of a record has.
var wide = [many]int{ofRound: 8, ofUse: 1, ofContact: 1, ofClass: 1}

// entry is a round that is entered.
type entry struct {
	words [many]uint64                                 // of its record
	does  func(t table.Table) (table.Table, api.Errno) // what is done to a table that has seen the round
}

// without is a round without a use.
func without(round uint64) entry {
	return entry{
		words: [many]uint64{ofRound: round},
		does:  func(t table.Table) (table.Table, api.Errno) { return t, api.OK },
	}
}

// with is a round with a use, of tables that may have it.
func with(round uint64, contact, class int, may func(t table.Table, contact, class int) bool) entry {
	return entry{
		words: [many]uint64{ofRound: round, ofUse: 1, ofContact: uint64(contact), ofClass: uint64(class)},
		does: func(t table.Table) (table.Table, api.Errno) {
			if !may(t, contact, class) {
				return t, api.ErrLimit
			}
			return t.Add(contact, class)
		},
	}
}

// on is what a table is behind an entry.
func (x entry) on(t table.Table) (table.Table, api.Errno) {
	seen, e := t.Seen(x.words[ofRound])
	if e != api.OK {
		return t, e
	}
	return x.does(seen)
}

// record is an entry's bytes.
func (x entry) record() string {
	var out string
	for i, n := range wide {
		// No word of what a table may have has more bytes, so that Put doesn't go wrong.
		s, _ := octet.Put(x.words[i], n)
		out += s
	}
	return out
}

// replay does anew what records tell, one behind the other.
func (l *Ledger) replay(records []string) api.Errno {
	for _, s := range records {
		x, e := l.told(s)
		if e != api.OK {
			return e
		}
		if l.table, e = x.on(l.table); e != api.OK {
			return e
		}
	}
	return api.OK
}

// told is the entry of a record. Whether the caps allow it was asked when it was entered.
func (l *Ledger) told(s string) (entry, api.Errno) {
	var words [many]uint64
	rest := s
	for i, n := range wide {
		var e api.Errno
		if words[i], rest, e = octet.Take(rest, n); e != api.OK {
			return entry{}, e
		}
	}
	x := without(words[ofRound])
	if words[ofUse] != 0 {
		x = with(words[ofRound], int(words[ofContact]), int(words[ofClass]), l.has)
	}
	// What isn't a record would have been written otherwise.
	if x.record() != s {
		return entry{}, api.ErrForm
	}
	return x, api.OK
}

// has tells whether the plan has a contact and a class. A table has room for others, too, but its bytes haven't.
func (l *Ledger) has(_ table.Table, contact, class int) bool {
	p := l.purse.Plan()
	return contact < len(p.Contacts) && class < len(p.Classes)
}
