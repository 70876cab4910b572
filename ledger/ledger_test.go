package ledger

import (
	"encoding/binary"
	"math"
	"math/rand/v2"
	"reflect"
	"slices"
	"strings"
	"testing"

	"chaff/api"
	"chaff/disk"
	"chaff/log"
	"chaff/noise"
	"chaff/plan"
	"chaff/purse"
	"chaff/slot"
	"chaff/table"
	"chaff/vault"
)

// The tests lay a vault's text and records by the chapter with the library's numbers, and look at what stands on a disk by layer 16.

const top = math.MaxUint32

func ratio(n, d uint32) plan.Ratio { return plan.Ratio{Num: n, Den: d} }

// cost is one of Eps a over b and no Delta.
func cost(a, b uint32) plan.Cost { return plan.Cost{Eps: ratio(a, b), Delta: ratio(0, 1)} }

// capped is a cap of Eps n over d, and of any Delta.
func capped(n, d uint32) plan.Cost { return plan.Cost{Eps: ratio(n, d), Delta: ratio(top, 1)} }

// of is a Basic plan of so many contacts, and of classes with the Eps 1/4, 2/4, ..
func of(contacts, classes int, all, own plan.Cost) plan.Plan {
	p := plan.Plan{Prec: 16, Length: 2, Queue: 3, Slack: ratio(1, 9), Global: all, Contact: own, Tau: ratio(1, 1), Noise: noise.Law{Num: 1, Den: 2, Mu: 3}}
	for i := range contacts {
		p.Contacts = append(p.Contacts, 10*uint64(i)+10)
	}
	for i := range classes {
		p.Classes = append(p.Classes, cost(uint32(i)+1, 4))
	}
	return p
}

// small is a plan of two contacts and two classes, of which a contact may use five quarters, and all two.
func small() plan.Plan { return of(2, 2, capped(2, 1), capped(5, 4)) }

// loose is a plan whose caps nothing comes to.
func loose(contacts, classes int) plan.Plan {
	return of(contacts, classes, capped(top, 1), capped(top, 1))
}

// plans are some of all kinds, the least and the greatest too.
func plans() []plan.Plan {
	out := []plan.Plan{small(), loose(1, 1), loose(16, 1), loose(1, 8), loose(16, 8), loose(3, 5)}
	strong := of(3, 4, capped(9, 1), capped(7, 1))
	strong.Mode = plan.Strong
	most := loose(16, 8)
	most.Mode, most.Prec, most.Length, most.Queue, most.Slack = plan.Strong, 64, 256, 64, ratio(1<<31-1, top)
	for i := range most.Classes {
		most.Classes[i] = plan.Cost{Eps: ratio(1<<32-8, 1<<29-1), Delta: ratio(top-1, top)}
	}
	for i := range most.Contacts {
		most.Contacts[i] = math.MaxUint64 - 15 + uint64(i)
	}
	odd := small()
	odd.Slack = ratio(7, 0) // of a Basic plan it may be anything
	return append(out, strong, most, odd)
}

// some is a random table of a plan, as its bytes may have it.
func some(r *rand.Rand, p plan.Plan) table.Table {
	x := table.Table{Last: r.Uint64() >> r.IntN(64)}
	for class := range p.Classes {
		x.Global[class] = r.Uint32() >> r.IntN(32)
		for contact := range p.Contacts {
			x.Rows[contact][class] = r.Uint32() >> r.IntN(32)
		}
	}
	return x
}

// laid is the vault's text, as the chapter tells it.
func laid(t testing.TB, p plan.Plan, x table.Table) string {
	t.Helper()
	head, e := p.Encode()
	if e != api.OK {
		t.Fatal(e)
	}
	out := binary.BigEndian.AppendUint16(nil, uint16(len(head)))
	out = append(out, head...)
	out = binary.BigEndian.AppendUint64(out, x.Last)
	for _, r := range append([]table.Row{x.Global}, x.Rows[:len(p.Contacts)]...) {
		for _, n := range r[:len(p.Classes)] {
			out = binary.BigEndian.AppendUint32(out, n)
		}
	}
	return string(out)
}

// parts is how many sectors a text takes.
func parts(text string) int { return (len(text) + 4 + 109) / 110 }

// record is a record's bytes.
func record(round uint64, use, contact, class byte) string {
	return string(append(binary.BigEndian.AppendUint64(nil, round), use, contact, class))
}

func fresh(t testing.TB, size int) *disk.Disk {
	t.Helper()
	d, e := disk.New(size)
	if e != api.OK {
		t.Fatal(e)
	}
	return d
}

// disked is a disk of slots of n sectors and so many for records, with a text of a generation and records behind it.
func disked(t testing.TB, n, room int, gen uint64, text string, records ...string) *disk.Disk {
	t.Helper()
	d := fresh(t, 2*n+room)
	if e := slot.Write(d, 0, n, gen, text); e != api.OK {
		t.Fatal(e)
	}
	l := log.Log{From: 2 * n, Room: room, Gen: gen}
	for _, s := range records {
		var e api.Errno
		if l, e = l.Append(d, s); e != api.OK {
			t.Fatal(e)
		}
	}
	if e := d.Sync(); e != api.OK {
		t.Fatal(e)
	}
	return d
}

// stands looks whether a disk has just this text, and these records.
func stands(t testing.TB, d *disk.Disk, n int, text string, records ...string) vault.Vault {
	t.Helper()
	v, s, l, e := vault.Open(d, n)
	if e != api.OK || s != text || !slices.Equal(l, records) {
		t.Fatalf("%q %q %v, not %q %q", s, l, e, text, records)
	}
	return v
}

// created is a disk with a new ledger of a plan, with room for so many records, and how many sectors its slots have.
func created(t testing.TB, p plan.Plan, room int) (*disk.Disk, int) {
	t.Helper()
	n := parts(laid(t, p, table.Table{}))
	d := fresh(t, 2*n+room)
	if e := Create(d, n, p); e != api.OK {
		t.Fatal(e)
	}
	return d, n
}

// opened is the ledger of a disk.
func opened(t testing.TB, d *disk.Disk, n int) *Ledger {
	t.Helper()
	l, e := Open(d, n)
	if e != api.OK || l == nil {
		t.Fatal(l, e)
	}
	return l
}

// begun is a new ledger, its disk, and how many sectors its slots have.
func begun(t testing.TB, p plan.Plan, room int) (*Ledger, *disk.Disk, int) {
	t.Helper()
	d, n := created(t, p, room)
	return opened(t, d, n), d, n
}

// has looks whether a ledger has just this plan and this table.
func has(t testing.TB, l *Ledger, p plan.Plan, x table.Table) {
	t.Helper()
	if l.Table() != x || !reflect.DeepEqual(l.Purse().Plan(), p) {
		t.Fatalf("%v %+v, not %v %+v", l.Table(), l.Purse().Plan(), x, p)
	}
}

// fails looks whether a disk doesn't open, and that nothing is done.
func fails(t testing.TB, d *disk.Disk, n int, want api.Errno) {
	t.Helper()
	ops := d.Ops()
	if l, e := Open(d, n); l != nil || e != want {
		t.Fatalf("%v %v, not %v", l, e, want)
	}
	if d.Ops() != ops {
		t.Fatal("something was done")
	}
}

// does looks whether a call answers what it should, and asks as much of the disk.
func does(t testing.TB, d *disk.Disk, want api.Errno, ops int, call func() api.Errno) {
	t.Helper()
	before := d.Ops()
	if e := call(); e != want || d.Ops()-before != ops {
		t.Fatalf("%v and %d done, not %v and %d", e, d.Ops()-before, want, ops)
	}
}

// added is a table with a use more, or none of a contact below 0, behind a round.
func added(x table.Table, round uint64, contact, class int) table.Table {
	x.Last = round
	if contact >= 0 {
		x.Global[class]++
		x.Rows[contact][class]++
	}
	return x
}

// The chapter's example.
func TestExample(t *testing.T) {
	l, d, n := begun(t, small(), 3)
	if e := l.Use(1, 0, 0); e != api.OK {
		t.Fatal(e)
	}
	d.Crash(nil)
	x := opened(t, d, n).Table()
	if x.Last != 1 || x.Rows[0][0] != 1 || x.Global[0] != 1 || x.Global.Sum() != 1 {
		t.Fatal(x)
	}
}

// P24.1: what a Create lays: the text of the plan and the zero table, in the first slot, synced; it is opened behind a crash.
func TestCreate(t *testing.T) {
	for _, p := range plans() {
		want := laid(t, p, table.Table{})
		for _, more := range []int{0, 1, 5} {
			n := parts(want) + more
			d := fresh(t, 2*n+1+more)
			does(t, d, api.OK, parts(want)+1, func() api.Errno { return Create(d, n, p) })
			if d.Waiting() != 0 {
				t.Fatal("something waits")
			}
			d.Crash(nil)
			if v := stands(t, d, n, want); v.Slot != 0 || v.Log.Gen != 1 {
				t.Fatal(v)
			}
			has(t, opened(t, d, n), p, table.Table{})
		}
	}
}

// P24.1: of a Create's errors the plan's is the first, then come layer 16's; nothing is done.
func TestCreateWrong(t *testing.T) {
	long := parts(laid(t, small(), table.Table{}))
	for what, c := range map[string]struct {
		spoil   func(p *plan.Plan)
		n, size int
		full    bool
		want    api.Errno
	}{
		"no plan, no room":         {func(p *plan.Plan) { *p = plan.Plan{} }, 0, 5, true, api.ErrRange},
		"the Mode, not blank":      {func(p *plan.Plan) { p.Mode = 2 }, long, 9, true, api.ErrRange},
		"classes, no room":         {func(p *plan.Plan) { p.Classes = nil }, 0, 9, false, api.ErrClass},
		"classes, and contacts":    {func(p *plan.Plan) { p.Classes[1].Eps.Num, p.Contacts = 0, nil }, 5, 9, true, api.ErrClass},
		"contacts, no room":        {func(p *plan.Plan) { p.Contacts[1] = 10 }, -1, 9, true, api.ErrName},
		"contacts, not blank":      {func(p *plan.Plan) { p.Contacts = nil }, long, 9, true, api.ErrName},
		"contacts, slots too tiny": {func(p *plan.Plan) { p.Contacts = nil }, 1, 9, false, api.ErrName},
		"no room":                  {func(*plan.Plan) {}, 0, 9, false, api.ErrRange},
		"no room for a log":        {func(*plan.Plan) {}, 4, 8, true, api.ErrRange},
		"less than none":           {func(*plan.Plan) {}, math.MinInt, 9, true, api.ErrRange},
		"far too much":             {func(*plan.Plan) {}, math.MaxInt, 9, false, api.ErrRange},
		"not blank":                {func(*plan.Plan) {}, long, 9, true, api.ErrState},
		"not blank, tiny":          {func(*plan.Plan) {}, 1, 9, true, api.ErrState},
		"tiny":                     {func(*plan.Plan) {}, 1, 9, false, api.ErrLong},
		"tiny by one":              {func(*plan.Plan) {}, long - 1, 9, false, api.ErrLong},
	} {
		p := small()
		c.spoil(&p)
		d := fresh(t, c.size)
		if c.full {
			d.Write(c.size-1, strings.Repeat("x", 128))
		}
		d.Arm(1)
		ops := d.Ops()
		if e := Create(d, c.n, p); e != c.want || d.Ops() != ops || d.Sync() != api.ErrDisk {
			t.Fatal(what, e, c.want)
		}
	}
	d, n := created(t, small(), 3)
	does(t, d, api.ErrState, 0, func() api.Errno { return Create(d, n, small()) })
}

// P24.1: a Create goes wrong at each of its writes, and at its sync.
func TestCreateFails(t *testing.T) {
	p := loose(16, 8)
	want := laid(t, p, table.Table{})
	for k := 1; k <= parts(want)+2; k++ {
		d := fresh(t, 50)
		d.Arm(k)
		if k == parts(want)+2 {
			does(t, d, api.OK, k-1, func() api.Errno { return Create(d, 20, p) })
			continue
		}
		does(t, d, api.ErrDisk, k-1, func() api.Errno { return Create(d, 20, p) })
		d.Crash(nil)
		fails(t, d, 20, api.ErrNone)
	}
}

// P24.1: an Open has the plan and the table of any text, with what the records behind it tell, and settles the vault on that.
func TestOpen(t *testing.T) {
	r := rand.New(rand.NewPCG(24, 1))
	for _, p := range plans() {
		for range 20 {
			x := some(r, p)
			x.Last = x.Last/2 + 1
			text := laid(t, p, x)
			n, room := parts(text)+r.IntN(3), 1+r.IntN(9)
			var records []string
			y := x
			for range r.IntN(room + 1) {
				contact, class := r.IntN(len(p.Contacts)), r.IntN(len(p.Classes))
				round := y.Last + 1 + r.Uint64N(1<<r.IntN(50))
				if full := y.Global[class] == top || y.Rows[contact][class] == top; full || r.IntN(3) == 0 {
					y = added(y, round, -1, 0)
					records = append(records, record(round, 0, 0, 0))
					continue
				}
				y = added(y, round, contact, class)
				records = append(records, record(round, 1, byte(contact), byte(class)))
			}
			gen := 1 + r.Uint64N(1<<40)
			d := disked(t, n, room, gen, text, records...)
			for k := range uint64(3) {
				ops := d.Ops()
				has(t, opened(t, d, n), p, y)
				if d.Ops()-ops != parts(text)+1 || d.Waiting() != 0 {
					t.Fatal(d.Ops()-ops, d.Waiting())
				}
				d.Crash(nil)
				if v := stands(t, d, n, laid(t, p, y)); v.Log.Gen != gen+k+1 || v.Slot != int(k+1)%2 {
					t.Fatal(v)
				}
			}
		}
	}
}

// P24.1: layer 16's errors.
func TestOpenWrong(t *testing.T) {
	for _, n := range []int{math.MinInt, -1, 0, 4, 5, math.MaxInt} {
		d := fresh(t, 8)
		fails(t, d, n, api.ErrRange)
		d.Write(0, strings.Repeat("x", 128))
		fails(t, d, n, api.ErrRange)
	}
	d := fresh(t, 8)
	fails(t, d, 3, api.ErrNone)
	d.Write(7, strings.Repeat("x", 128))
	fails(t, d, 3, api.ErrRot)
	// A byte of a written sector, turned, wherever it is.
	d = disked(t, 3, 4, 5, laid(t, small(), table.Table{}), record(1, 0, 0, 0), record(2, 1, 1, 1))
	for _, i := range []int{0, 1, 6, 7} {
		for at := range 128 {
			d.Rot(i, at, 1<<(at%8))
			fails(t, d, 3, api.ErrRot)
			d.Rot(i, at, 1<<(at%8))
		}
	}
	if x := opened(t, d, 3).Table(); x.Last != 2 || x.Rows[1][1] != 1 {
		t.Fatal(x)
	}
}

// textIs looks whether a vault of a text opens, and no other one.
func textIs(t testing.TB, text string, good bool) {
	t.Helper()
	n := parts(text)
	d := disked(t, n, 1, 3, text)
	if !good {
		fails(t, d, n, api.ErrRot)
		return
	}
	opened(t, d, n)
}

// P24.1: a text that isn't that of a plan that may be and a table is rot: each cut, bytes behind, each length told, and any byte turned.
func TestTextRot(t *testing.T) {
	for _, p := range []plan.Plan{small(), loose(1, 1), loose(16, 8)} {
		x := table.Table{Last: 5}
		x.Global[0], x.Rows[0][0] = 1, 1
		text := laid(t, p, x)
		textIs(t, text, true)
		for i := range text {
			textIs(t, text[:i], false)
		}
		for _, more := range []string{"\x00", "x", "\x00\x00\x00\x00", text} {
			textIs(t, text+more, false)
		}
		head := int(text[0])<<8 | int(text[1])
		for _, long := range []int{0, 1, head - 1, head + 1, head + 4, len(text) - 2, len(text) - 1, len(text), 1 << 15, 1<<16 - 1} {
			textIs(t, string([]byte{byte(long >> 8), byte(long)})+text[2:], false)
		}
		for i := 2; i < len(text); i++ {
			for bit := range 8 {
				turned := []byte(text)
				turned[i] ^= 1 << bit
				q, e := plan.Decode(string(turned[2 : 2+head]))
				textIs(t, string(turned), e == api.OK && len(q.Classes) == len(p.Classes) && len(q.Contacts) == len(p.Contacts))
			}
		}
	}
	// A plan that may not be: its own bytes, with one number spoilt.
	for _, spoilt := range []struct {
		at    int
		bytes string
	}{{2, "\x02"}, {3, "\x07"}, {3, "\x41"}, {4, "\x00\x00"}, {6, "\x00"}, {15, "\x00\x00\x00\x00\x00\x00\x00\x00"}} {
		text := laid(t, small(), table.Table{})
		textIs(t, text[:spoilt.at]+spoilt.bytes+text[spoilt.at+len(spoilt.bytes):], false)
	}
}

// P24.1: a record that isn't so is rot, wherever it stands; so is one whose round isn't above Last, or whose use can't be added.
func TestRecordRot(t *testing.T) {
	p := of(2, 3, capped(9, 1), capped(9, 1))
	x := table.Table{Last: 7}
	x.Global[0], x.Rows[0][0] = top, 3
	x.Global[1], x.Rows[1][1] = 3, top
	text := laid(t, p, x)
	n := parts(text)
	good := []string{record(8, 0, 0, 0), record(9, 1, 0, 2), record(1<<40, 1, 1, 2), record(math.MaxUint64-1, 0, 0, 0)}
	bad := []string{
		"", "x", record(99, 0, 0, 0) + "\x00", record(99, 1, 1, 2) + "\x00", strings.Repeat("\x00", 110),
		record(7, 0, 0, 0), record(7, 1, 0, 2), record(6, 0, 0, 0), record(0, 0, 0, 0), record(0, 1, 1, 2),
		record(99, 0, 1, 0), record(99, 0, 0, 1), record(99, 0, 0, 255), record(99, 0, 255, 0), record(99, 0, 1, 2),
		record(99, 1, 2, 0), record(99, 1, 2, 2), record(99, 1, 3, 2), record(99, 1, 15, 2), record(99, 1, 16, 2), record(99, 1, 128, 2), record(99, 1, 255, 2),
		record(99, 1, 0, 3), record(99, 1, 1, 7), record(99, 1, 1, 8), record(99, 1, 1, 128), record(99, 1, 1, 255), record(99, 1, 2, 3),
		record(99, 1, 0, 0), record(99, 1, 1, 0), record(99, 1, 1, 1), record(99, 1, 0, 0),
	}
	for use := 2; use < 256; use++ {
		bad = append(bad, record(99, byte(use), 0, 2), record(99, byte(use), 0, 0))
	}
	for i := range 11 {
		bad = append(bad, record(99, 1, 1, 2)[:i], record(99, 0, 0, 0)[:i])
	}
	for _, s := range bad {
		fails(t, disked(t, n, 6, 1, text, s), n, api.ErrRot)
		fails(t, disked(t, n, 6, 1, text, record(10, 0, 0, 0), s, record(100, 0, 0, 0)), n, api.ErrRot)
		fails(t, disked(t, n, 6, 1, text, record(8, 1, 0, 2), record(10, 1, 0, 2), s), n, api.ErrRot)
	}
	for i := range good {
		has(t, opened(t, disked(t, n, 6, 1, text, good[i]), n), p, after(x, good[i]))
		has(t, opened(t, disked(t, n, 6, 1, text, good[:i+1]...), n), p, after(x, good[:i+1]...))
		fails(t, disked(t, n, 6, 1, text, good[i], good[i]), n, api.ErrRot)
		if i > 0 {
			fails(t, disked(t, n, 6, 1, text, good[i], good[i-1]), n, api.ErrRot)
		}
	}
	// Of rounds only those ahead are looked at: a text may have the last one that there is.
	x.Last = math.MaxUint64
	text = laid(t, p, x)
	has(t, opened(t, disked(t, n, 6, 1, text), n), p, x)
	fails(t, disked(t, n, 6, 1, text, record(math.MaxUint64, 0, 0, 0)), n, api.ErrRot)
}

// after is a table behind records that are so.
func after(x table.Table, records ...string) table.Table {
	for _, s := range records {
		contact := -1
		if s[8] == 1 {
			contact = int(s[9])
		}
		x = added(x, binary.BigEndian.Uint64([]byte(s)), contact, int(s[10]))
	}
	return x
}

// P24.1: whether the caps allow what stands on a disk isn't asked: it was, when it was entered.
func TestOpenBeyond(t *testing.T) {
	p := of(2, 2, capped(0, 1), capped(0, 1))
	x := table.Table{Last: 3, Global: table.Row{9, 9}}
	text := laid(t, p, x)
	n := parts(text)
	d := disked(t, n, 3, 1, text, record(4, 1, 0, 1), record(5, 1, 1, 1))
	l := opened(t, d, n)
	has(t, l, p, after(x, record(4, 1, 0, 1), record(5, 1, 1, 1)))
	does(t, d, api.ErrLimit, 0, func() api.Errno { return l.Use(6, 0, 0) })
	does(t, d, api.OK, 2, func() api.Errno { return l.Enter(6) })
}

// P24.1: an Open whose settling goes wrong, at each write, and at the sync, is ErrDisk, and is opened later on; where there is no greater generation it is ErrFull. Rot is told ahead of both.
func TestOpenSettleFails(t *testing.T) {
	p := loose(16, 8)
	x := some(rand.New(rand.NewPCG(24, 2)), p)
	x.Last = 7
	text := laid(t, p, x)
	n, y := parts(text), added(x, 9, -1, 0)
	for k := 1; k <= n+2; k++ {
		for _, crash := range []bool{true, false} {
			d := disked(t, n, 2, 4, text, record(9, 0, 0, 0))
			d.Arm(k)
			l, e := Open(d, n)
			if want := k <= n+1; (e == api.ErrDisk) != want || (l == nil) != want {
				t.Fatal(k, l, e)
			}
			d.Arm(0)
			if crash {
				d.Crash(nil)
			}
			has(t, opened(t, d, n), p, y)
		}
	}
	d := disked(t, n, 2, math.MaxUint64, text, record(9, 0, 0, 0))
	d.Arm(1)
	fails(t, d, n, api.ErrFull)
	fails(t, disked(t, n, 2, math.MaxUint64, text, record(7, 0, 0, 0)), n, api.ErrRot)
	fails(t, disked(t, n, 2, math.MaxUint64, text[1:]), n, api.ErrRot)
	d = disked(t, n, 2, 4, text, record(7, 0, 0, 0))
	d.Arm(1)
	fails(t, d, n, api.ErrRot)
	d = disked(t, n, 2, math.MaxUint64-1, text, record(9, 0, 0, 0))
	if v := stands(t, opens(t, d, n, p, y), n, laid(t, p, y)); v.Log.Gen != math.MaxUint64 {
		t.Fatal(v)
	}
}

// opens looks whether a disk opens as a ledger of a plan and a table.
func opens(t testing.TB, d *disk.Disk, n int, p plan.Plan, x table.Table) *disk.Disk {
	t.Helper()
	has(t, opened(t, d, n), p, x)
	return d
}

// P24.2: what Enter and Use do, and the records that stand behind the text, of plans of all kinds.
func TestEnter(t *testing.T) {
	r := rand.New(rand.NewPCG(24, 3))
	for _, p := range plans() {
		room := 40
		l, d, n := begun(t, p, room)
		text := laid(t, p, table.Table{})
		u := l.Purse()
		var x table.Table
		var records []string
		for range room {
			round := x.Last + 1 + r.Uint64N(1<<r.IntN(56))
			contact, class := r.IntN(len(p.Contacts)), r.IntN(len(p.Classes))
			switch {
			case r.IntN(4) == 0:
				does(t, d, api.OK, 2, func() api.Errno { return l.Enter(round) })
				x = added(x, round, -1, 0)
				records = append(records, record(round, 0, 0, 0))
			case u.Affords(x, contact, class):
				does(t, d, api.OK, 2, func() api.Errno { return l.Use(round, contact, class) })
				x = added(x, round, contact, class)
				records = append(records, record(round, 1, byte(contact), byte(class)))
			default:
				does(t, d, api.ErrLimit, 0, func() api.Errno { return l.Use(round, contact, class) })
			}
			has(t, l, p, x)
			d.Crash(nil)
			stands(t, d, n, text, records...)
		}
		if len(records) < 4 {
			t.Fatal("the test's own: too few were entered")
		}
		opens(t, d, n, p, x)
	}
}

// P24.2: each contact and class that a plan has, up to the greatest plan's.
func TestEach(t *testing.T) {
	p := loose(16, 8)
	l, d, n := begun(t, p, 16*8)
	var x table.Table
	for contact := range 16 {
		for class := range 8 {
			x = added(x, x.Last+1, contact, class)
			does(t, d, api.OK, 2, func() api.Errno { return l.Use(x.Last, contact, class) })
			has(t, l, p, x)
		}
	}
	d.Crash(nil)
	opens(t, d, n, p, x)
}

// P24.2: a round that isn't above Last is ErrOld, ahead of all else; nothing is done.
func TestOld(t *testing.T) {
	l, d, _ := begun(t, small(), 1)
	d.Arm(1)
	for _, call := range []func() api.Errno{
		func() api.Errno { return l.Enter(0) },
		func() api.Errno { return l.Use(0, 0, 0) },
		func() api.Errno { return l.Use(0, 9, 9) },
	} {
		does(t, d, api.ErrOld, 0, call)
	}
	d.Arm(0)
	does(t, d, api.OK, 2, func() api.Errno { return l.Enter(1 << 40) })
	d.Arm(1)
	for _, round := range []uint64{0, 1, 1<<40 - 1, 1 << 40} { // the log is full: it isn't settled, either
		does(t, d, api.ErrOld, 0, func() api.Errno { return l.Enter(round) })
		does(t, d, api.ErrOld, 0, func() api.Errno { return l.Use(round, 0, 0) })
		does(t, d, api.ErrOld, 0, func() api.Errno { return l.Use(round, -1, 99) })
	}
	has(t, l, small(), table.Table{Last: 1 << 40})
	d.Arm(0)
	if l.Enter(1<<40+1) != api.OK || l.Enter(math.MaxUint64) != api.OK || l.Enter(math.MaxUint64) != api.ErrOld || l.Use(math.MaxUint64-1, 0, 0) != api.ErrOld {
		t.Fatal("rounds next to one another, or the last one")
	}
	has(t, l, small(), table.Table{Last: math.MaxUint64})
}

// P24.2: what isn't afforded is ErrLimit, ahead of what goes wrong with the disk; nothing is done, and the round may be entered yet.
func TestLimit(t *testing.T) {
	p := small()
	l, d, n := begun(t, p, 3)
	ends := []int{math.MinInt, -1 << 32, -256, -1, 2, 3, 7, 8, 15, 16, 255, 256, 1 << 32, 1<<32 + 1, math.MaxInt}
	d.Arm(1)
	for _, wrong := range ends {
		for _, other := range append(ends, 0, 1) {
			does(t, d, api.ErrLimit, 0, func() api.Errno { return l.Use(1, wrong, other) })
			does(t, d, api.ErrLimit, 0, func() api.Errno { return l.Use(1, other, wrong) })
		}
	}
	has(t, l, p, table.Table{})
	d.Arm(0)
	// Classes are a quarter and a half. Five quarters are a contact's cap, eight are that of all.
	x := table.Table{}
	for i, u := range []struct {
		contact, class int
		want           api.Errno
	}{
		{0, 1, api.OK}, {0, 1, api.OK}, {0, 1, api.ErrLimit}, {0, 0, api.OK}, {0, 0, api.ErrLimit},
		{1, 1, api.OK}, {1, 1, api.ErrLimit}, {1, 0, api.OK}, {1, 0, api.ErrLimit}, {0, 0, api.ErrLimit},
	} {
		full := i == 5 // behind three records
		if u.want == api.ErrLimit {
			d.Arm(1)
			does(t, d, u.want, 0, func() api.Errno { return l.Use(x.Last+1, u.contact, u.class) })
			d.Arm(0)
		} else {
			x = added(x, x.Last+1, u.contact, u.class)
			ops := 2
			if full {
				ops += n + 1
			}
			does(t, d, u.want, ops, func() api.Errno { return l.Use(x.Last, u.contact, u.class) })
		}
		has(t, l, p, x)
	}
	does(t, d, api.OK, 2, func() api.Errno { return l.Enter(x.Last + 1) })
	// A count at its end.
	loose := loose(2, 2)
	loose.Classes[0] = cost(1, top)
	x = table.Table{Global: table.Row{top, 0}}
	d = disked(t, n, 3, 1, laid(t, loose, x))
	l = opened(t, d, n)
	does(t, d, api.ErrLimit, 0, func() api.Errno { return l.Use(1, 0, 0) })
	does(t, d, api.ErrLimit, 0, func() api.Errno { return l.Use(1, 1, 0) })
	does(t, d, api.OK, 2, func() api.Errno { return l.Use(1, 1, 1) })
}

// P24.2: where the log is full, the vault is settled on the text of the table ahead of a record; not where what is to be entered is refused.
func TestLogFull(t *testing.T) {
	p := loose(3, 2)
	for _, room := range []int{1, 2, 5} {
		l, d, n := begun(t, p, room)
		var x table.Table
		gen, text := uint64(2), laid(t, p, x)
		var records []string
		for i := range 4 * room {
			ops := 2
			if len(records) == room {
				does(t, d, api.ErrOld, 0, func() api.Errno { return l.Use(x.Last, 0, 0) })
				does(t, d, api.ErrLimit, 0, func() api.Errno { return l.Use(x.Last+1, 3, 0) })
				gen, text, records, ops = gen+1, laid(t, p, x), nil, n+3
			}
			contact := i%4 - 1
			y := added(x, uint64(i)+5, contact, i%2)
			if contact < 0 {
				does(t, d, api.OK, ops, func() api.Errno { return l.Enter(y.Last) })
				records = append(records, record(y.Last, 0, 0, 0))
			} else {
				does(t, d, api.OK, ops, func() api.Errno { return l.Use(y.Last, contact, i%2) })
				records = append(records, record(y.Last, 1, byte(contact), byte(i%2)))
			}
			x = y
			has(t, l, p, x)
			d.Crash(nil)
			if v := stands(t, d, n, text, records...); v.Log.Gen != gen || v.Slot != int(gen-1)%2 {
				t.Fatal(v, gen)
			}
		}
	}
}

// entries are Enter and Use, and what comes of them.
func entries(l *Ledger) map[string]func(round uint64) (api.Errno, table.Table) {
	return map[string]func(uint64) (api.Errno, table.Table){
		"Enter": func(round uint64) (api.Errno, table.Table) {
			x := added(l.Table(), round, -1, 0)
			return l.Enter(round), x
		},
		"Use": func(round uint64) (api.Errno, table.Table) {
			x := added(l.Table(), round, 1, 0)
			return l.Use(round, 1, 0), x
		},
	}
}

// P24.2: a record whose write fails leaves all as it was: the same round is entered later on, in the same place.
func TestWriteFails(t *testing.T) {
	p := small()
	for name := range entries(nil) {
		for room := 1; room <= 3; room++ {
			l, d, n := begun(t, p, room)
			if room > 1 {
				does(t, d, api.OK, 2, func() api.Errno { return l.Use(3, 0, 0) })
			}
			x := l.Table()
			for range 3 {
				d.Arm(1)
				ops := d.Ops()
				if e, _ := entries(l)[name](4); e != api.ErrDisk || d.Ops() != ops || d.Waiting() != 0 {
					t.Fatal(name, e)
				}
				has(t, l, p, x)
			}
			ops := d.Ops()
			e, y := entries(l)[name](4)
			if e != api.OK || d.Ops()-ops != 2 {
				t.Fatal(name, e, d.Ops()-ops)
			}
			has(t, l, p, y)
			d.Crash(nil)
			opens(t, d, n, p, y)
		}
	}
}

// P24.2: a record whose sync fails is ErrDisk, but the table has it; behind a crash it may be there, or not; behind a later one that goes well it is.
func TestSyncFails(t *testing.T) {
	p := small()
	for name := range entries(nil) {
		for _, keep := range []bool{true, false} {
			l, d, n := begun(t, p, 3)
			before := l.Table()
			d.Arm(2)
			ops := d.Ops()
			e, x := entries(l)[name](4)
			if e != api.ErrDisk || d.Ops()-ops != 1 || d.Waiting() != 1 {
				t.Fatal(name, e)
			}
			has(t, l, p, x)
			does(t, d, api.ErrOld, 0, func() api.Errno { return l.Enter(4) })
			d.Crash([]bool{keep})
			if keep {
				opens(t, d, n, p, x)
			} else {
				opens(t, d, n, p, before)
			}
		}
		// A log of one is full behind such a record: it is settled ahead of the next one.
		for _, room := range []int{1, 3} {
			l, d, n := begun(t, p, room)
			d.Arm(2)
			if e, _ := entries(l)[name](4); e != api.ErrDisk {
				t.Fatal(e)
			}
			ops, want := d.Ops(), 2
			if room == 1 {
				want = n + 3
			}
			e, x := entries(l)[name](5)
			if e != api.OK || d.Ops()-ops != want {
				t.Fatal(name, e, d.Ops()-ops)
			}
			has(t, l, p, x)
			d.Crash(nil)
			opens(t, d, n, p, x)
		}
	}
}

// P24.2: where the log is full, an entering goes wrong at each write, and at the sync, of the settling, and at the record's own; the next one settles anew, if the settling went wrong, and not else.
func TestSettleFails(t *testing.T) {
	p := small()
	for name := range entries(nil) {
		for k := 1; k <= 5; k++ {
			for _, twice := range []bool{true, false} {
				l, d, n := begun(t, p, 2)
				if n != 2 || l.Use(3, 1, 0) != api.OK || l.Enter(4) != api.OK {
					t.Fatal("the test's own")
				}
				x := l.Table()
				d.Arm(k)
				ops := d.Ops()
				e, y := entries(l)[name](5)
				if e != api.ErrDisk || d.Ops()-ops != k-1 {
					t.Fatal(k, name, e, d.Ops()-ops)
				}
				if k < 5 {
					y = x
				}
				has(t, l, p, y)
				want := 2
				if k <= 3 {
					want = 5
					if twice {
						d.Arm(1)
						does(t, d, api.ErrOld, 0, func() api.Errno { return l.Use(4, 0, 0) })
						does(t, d, api.ErrLimit, 0, func() api.Errno { return l.Use(5, 2, 0) })
						does(t, d, api.ErrDisk, 0, func() api.Errno { return l.Enter(6) })
						has(t, l, p, x)
					}
				}
				ops = d.Ops()
				e, y = entries(l)[name](7)
				if e != api.OK || d.Ops()-ops != want {
					t.Fatal(k, name, e, d.Ops()-ops)
				}
				has(t, l, p, y)
				d.Crash(nil)
				opens(t, d, n, p, y)
			}
		}
	}
}

// P24.2: where there is no greater generation a full log is ErrFull, behind ErrOld and ErrLimit, and ahead of ErrDisk; nothing is done.
func TestNoGeneration(t *testing.T) {
	p := small()
	text := laid(t, p, table.Table{})
	n := parts(text)
	d := disked(t, n, 2, math.MaxUint64-1, text)
	l := opened(t, d, n)
	if l.Use(1, 0, 0) != api.OK || l.Use(2, 1, 1) != api.OK {
		t.Fatal("a log that isn't full takes records")
	}
	x := l.Table()
	d.Arm(1)
	for range 2 {
		does(t, d, api.ErrOld, 0, func() api.Errno { return l.Use(2, 9, 9) })
		does(t, d, api.ErrLimit, 0, func() api.Errno { return l.Use(3, 9, 9) })
		does(t, d, api.ErrFull, 0, func() api.Errno { return l.Use(3, 0, 0) })
		does(t, d, api.ErrFull, 0, func() api.Errno { return l.Enter(3) })
		has(t, l, p, x)
	}
	d.Arm(0)
	fails(t, d, n, api.ErrFull)
}

// P24.2: Purse is the plan's: it costs and affords as layer 23's own.
func TestPurse(t *testing.T) {
	for _, p := range plans() {
		l, _, _ := begun(t, p, 3)
		u, e := purse.New(p)
		if e != api.OK || !reflect.DeepEqual(l.Purse(), u) {
			t.Fatal(e, p)
		}
		l.Use(1, 0, 0)
		if !reflect.DeepEqual(l.Purse(), u) || !reflect.DeepEqual(l.Purse().Plan(), p) {
			t.Fatal("a use changes the purse")
		}
	}
}

// R3: the plan that is handed in isn't changed, and not kept; what is handed out is new.
func TestNothingIsShared(t *testing.T) {
	p := small()
	p.Classes, p.Contacts = slices.Grow(p.Classes, 4), slices.Grow(p.Contacts, 4)
	l, d, n := begun(t, p, 1)
	if !reflect.DeepEqual(p, small()) || slices.Max(p.Contacts[:cap(p.Contacts)][2:]) != 0 {
		t.Fatal(p)
	}
	for i := range 4 {
		q := l.Purse().Plan()
		for _, own := range []plan.Plan{p, q} {
			clear(own.Classes[:cap(own.Classes)])
			clear(own.Contacts[:cap(own.Contacts)])
		}
		x := l.Table()
		x.Last, x.Global[0] = 99, 99
		y := added(l.Table(), uint64(i)+1, -1, 0)
		if e := l.Enter(y.Last); e != api.OK { // settles, as the log has room for one
			t.Fatal(e)
		}
		has(t, l, small(), y)
	}
	opens(t, d, n, small(), l.Table())
}

// R5: ledgers of two disks don't know of one another.
func TestApart(t *testing.T) {
	a, d, n := begun(t, small(), 2)
	b, f, m := begun(t, loose(2, 2), 2)
	for i := range uint64(9) {
		if a.Enter(2*i+1) != api.OK || b.Use(i+1, 1, 1) != api.OK {
			t.Fatal(i)
		}
	}
	opens(t, d, n, small(), table.Table{Last: 17})
	x := table.Table{Last: 9, Global: table.Row{0, 9}}
	x.Rows[1] = x.Global
	opens(t, f, m, loose(2, 2), x)
}

// R1: of the zero ledger nothing is promised, but its calls end, and don't panic; it has nothing, and takes nothing.
func TestZeroLedger(t *testing.T) {
	var l Ledger
	if l.Enter(0) == api.OK || l.Enter(1) == api.OK || l.Use(0, 0, 0) == api.OK || l.Use(1, 0, 0) == api.OK || l.Use(1, -1, 99) == api.OK {
		t.Fatal("it takes something")
	}
	if l.Table() != (table.Table{}) || len(l.Purse().Plan().Classes) > 0 {
		t.Fatal("it has something")
	}
	fails(t, new(disk.Disk), 1, api.ErrRange)
	if e := Create(new(disk.Disk), 1, small()); e != api.ErrRange {
		t.Fatal(e)
	}
}
