package govern

import (
	"encoding/binary"
	"errors"
	"math"
	"reflect"
	"slices"
	"strings"
	"testing"

	"chaff/api"
	"chaff/audit"
	"chaff/disk"
	"chaff/ledger"
	"chaff/noise"
	"chaff/plan"
	"chaff/slot"
	"chaff/table"
	"chaff/tape"
)

// The tests tell rounds and reports by layer 19's bytes, and look at what lasts by opening ledgers on disks.

const top = math.MaxUint32

func ratio(n, d uint32) plan.Ratio { return plan.Ratio{Num: n, Den: d} }

// eps is a cost of Eps n over d, and of any Delta that a cap may have.
func eps(n, d uint32) plan.Cost { return plan.Cost{Eps: ratio(n, d), Delta: ratio(1, 1)} }

// of is a Basic plan of so many contacts (10, 20, ..), and of classes with the Eps 1/4, 2/4, .. By its Tau a count of 3 is Accept, one of 0 Reject, one of 2 Unclear.
func of(contacts, classes int, all, own plan.Cost) plan.Plan {
	p := plan.Plan{Prec: 8, Length: 2, Queue: 3, Slack: ratio(1, 9), Global: all, Contact: own, Tau: ratio(159, 256), Noise: noise.Law{Num: 1, Den: 2, Mu: 3}}
	for i := range contacts {
		p.Contacts = append(p.Contacts, 10*uint64(i)+10)
	}
	for i := range classes {
		p.Classes = append(p.Classes, plan.Cost{Eps: ratio(uint32(i)+1, 4), Delta: ratio(0, 1)})
	}
	return p
}

// small is a plan of two contacts and two classes, of which a contact may use five quarters, and all two.
func small() plan.Plan { return of(2, 2, eps(2, 1), eps(5, 4)) }

// loose is a plan whose caps nothing comes to.
func loose(contacts, classes int) plan.Plan { return of(contacts, classes, eps(top, 1), eps(top, 1)) }

// tells is the bytes of a round.
func tells(number uint64, epoch uint32, class byte) string {
	b := binary.BigEndian.AppendUint64([]byte("R"), number)
	return string(append(binary.BigEndian.AppendUint32(b, epoch), class))
}

// met is the bytes of a report that a count was met once.
func met(epoch, value uint32) string {
	b := binary.BigEndian.AppendUint32([]byte("H"), epoch)
	b = binary.BigEndian.AppendUint16(b, 1)
	b = binary.BigEndian.AppendUint32(b, value)
	return string(binary.BigEndian.AppendUint32(b, 1))
}

// counts are values, by the verdict that comes to them by plans of of.
var counts = map[audit.Verdict]uint32{audit.Accept: 3, audit.Reject: 0, audit.Unclear: 2}

func fresh(t testing.TB, size int) *disk.Disk {
	t.Helper()
	d, e := disk.New(size)
	if e != api.OK {
		t.Fatal(e)
	}
	return d
}

// parts is how many sectors a plan's slots take.
func parts(t testing.TB, p plan.Plan) int {
	t.Helper()
	for n := 1; ; n++ {
		if e := Create(fresh(t, 2*n+1), n, p); e == api.OK {
			return n
		} else if e != api.ErrLong {
			t.Fatal(e)
		}
	}
}

// created is a disk with a new ledger of a plan, with room for so many records, and how many sectors its slots have.
func created(t testing.TB, p plan.Plan, room int) (*disk.Disk, int) {
	t.Helper()
	n := parts(t, p)
	d := fresh(t, 2*n+room)
	if e := Create(d, n, p); e != api.OK {
		t.Fatal(e)
	}
	return d, n
}

// begins is a governor that begins.
func begins(t testing.TB, d *disk.Disk, n int, p plan.Plan) *Governor {
	t.Helper()
	g, e := Begin(d, n, p)
	if e != api.OK || g == nil {
		t.Fatal(g, e)
	}
	return g
}

// begun is a new governor with a ledger, and its disk.
func begun(t testing.TB, p plan.Plan, room int) (*Governor, *disk.Disk) {
	t.Helper()
	d, n := created(t, p, room)
	g := begins(t, d, n, p)
	if !g.Open() {
		t.Fatal(g.Why())
	}
	return g, d
}

// accepts has Accept posted on epochs.
func accepts(t testing.TB, g *Governor, epochs ...uint32) {
	t.Helper()
	for _, epoch := range epochs {
		if v, e := g.Report(met(epoch, 3)); v != audit.Accept || e != api.OK {
			t.Fatal(v, e)
		}
	}
}

// pushes has payloads of a contact wait.
func pushes(t testing.TB, g *Governor, contact uint64, payloads ...string) {
	t.Helper()
	for _, s := range payloads {
		if e := g.Push(contact, s); e != api.OK {
			t.Fatal(e)
		}
	}
}

// comes looks what comes of a round whose tape is zz.
func comes(t testing.TB, g *Governor, bytes string, want Result) {
	t.Helper()
	if r := g.Round(bytes, tape.New("zz")); r != want {
		t.Fatalf("%+v, not %+v", r, want)
	}
}

var cover = Result{Taken: true, Envelope: "zz"}

func refused(e api.Errno) Result { return Result{Err: e} }
func real(s string) Result       { return Result{Taken: true, Real: true, Envelope: s} }

// went looks whether why is an error under a word; an empty one: whether it is nil.
func went(t testing.TB, g *Governor, where string, want api.Errno) {
	t.Helper()
	err := g.Why()
	if where == "" {
		if err != nil {
			t.Fatal(err)
		}
		return
	}
	var x Trouble
	if !errors.Is(err, want) || !errors.As(err, &x) || x != (Trouble{where, want}) || err.Error() != where+": "+want.Word() {
		t.Fatalf("%v, not %s: %s", err, where, want.Word())
	}
	var number api.Errno
	if !errors.As(err, &number) || number != want {
		t.Fatal(number)
	}
}

// state is all that a governor tells of itself.
type state struct {
	table   table.Table
	waiting int
	last    uint64
	open    bool
	why     string
}

func stands(g *Governor) state {
	s := state{table: g.Table(), waiting: g.Waiting(), last: g.Last(), open: g.Open()}
	if err := g.Why(); err != nil {
		s.why = err.Error()
	}
	return s
}

// used is a table with these uses, each a contact and a class.
func used(last uint64, uses ...[2]int) table.Table {
	x := table.Table{Last: last}
	for _, u := range uses {
		x.Rows[u[0]][u[1]]++
		x.Global[u[1]]++
	}
	return x
}

// has looks whether a governor has this table, and the disk, too, behind a crash that keeps nothing.
func has(t testing.TB, g *Governor, want table.Table) {
	t.Helper()
	if g.Table() != want {
		t.Fatal(g.Table(), want)
	}
	g.Crash(nil)
	if !g.Open() || g.Table() != want || g.Last() != want.Last {
		t.Fatal("behind a crash:", g.Why(), g.Table(), want)
	}
}

// The chapter's example.
func TestExample(t *testing.T) {
	g, _ := begun(t, small(), 3)
	pushes(t, g, 10, "aa")
	pushes(t, g, 20, "bb")
	if r := g.Round(tells(1, 1, 0), tape.New("wxyz")); r != (Result{Taken: true, Envelope: "wx"}) {
		t.Fatal(r)
	}
	has(t, g, used(1))
}

// P28.1: Create is layer 24's: what stands on the disk is alike, and so are the errors.
func TestCreate(t *testing.T) {
	wrong := small()
	wrong.Tau.Den = 0
	blank := func(size int) *disk.Disk { return fresh(t, size) }
	for _, p := range []plan.Plan{small(), loose(16, 8), wrong} {
		for _, n := range []int{math.MinInt, -1, 0, 1, 2, 6, 7, math.MaxInt} {
			for _, size := range []int{1, 3, 5, 13, 15} {
				for arm := range 4 {
					a, b := blank(size), blank(size)
					a.Arm(arm)
					b.Arm(arm)
					if e, want := Create(a, n, p), ledger.Create(b, n, p); e != want {
						t.Fatal(n, size, e, want)
					}
					same(t, a, b)
				}
			}
		}
	}
	if Create(blank(9), 2, small()) == Create(blank(9), 2, wrong) {
		t.Fatal("the test's own")
	}
}

// same looks whether two disks are alike.
func same(t testing.TB, a, b *disk.Disk) {
	t.Helper()
	if a.Ops() != b.Ops() || a.Waiting() != b.Waiting() || a.Size() != b.Size() {
		t.Fatal("disks:", a.Ops(), b.Ops(), a.Waiting(), b.Waiting())
	}
	for i := range a.Size() {
		s, _ := a.Read(i)
		if u, _ := b.Read(i); s != u {
			t.Fatal("disks:", i)
		}
	}
}

// P28.1: of a plan that may not be Begin is its Check's error, and nothing is done.
func TestBeginWrong(t *testing.T) {
	for _, c := range []struct {
		wrong func(p *plan.Plan)
		want  api.Errno
	}{
		{func(p *plan.Plan) { *p = plan.Plan{} }, api.ErrRange},
		{func(p *plan.Plan) { p.Prec = 7 }, api.ErrRange},
		{func(p *plan.Plan) { p.Length = 257; p.Classes = nil }, api.ErrRange},
		{func(p *plan.Plan) { p.Queue = 0 }, api.ErrRange},
		{func(p *plan.Plan) { p.Classes = nil; p.Contacts = nil }, api.ErrClass},
		{func(p *plan.Plan) { p.Contacts = nil }, api.ErrName},
		{func(p *plan.Plan) { p.Contacts = []uint64{2, 2} }, api.ErrName},
	} {
		p := small()
		d, n := created(t, p, 2)
		c.wrong(&p)
		ops := d.Ops()
		if g, e := Begin(d, n, p); g != nil || e != c.want || d.Ops() != ops {
			t.Fatal(g, e, c.want)
		}
		if g, e := Begin(fresh(t, 1), -1, p); g != nil || e != c.want {
			t.Fatal(g, e, c.want)
		}
	}
}

// P28.1: a governor that begins has the disk's ledger, its last round, and nothing else.
func TestBegin(t *testing.T) {
	for _, p := range []plan.Plan{small(), loose(16, 8), loose(1, 1)} {
		d, n := created(t, p, 2)
		if g := begins(t, d, n, p); stands(g) != (state{open: true}) || g.Why() != nil {
			t.Fatal(stands(g))
		}
		l, e := ledger.Open(d, n)
		if e != api.OK || l.Use(1<<40, 0, 0) != api.OK || l.Enter(1<<50) != api.OK {
			t.Fatal(e)
		}
		g := begins(t, d, n, p)
		if stands(g) != (state{table: used(1<<50, [2]int{0, 0}), last: 1 << 50, open: true}) {
			t.Fatal(stands(g))
		}
		comes(t, g, tells(1<<50, 1, 0), refused(api.ErrOld))
		comes(t, g, tells(1<<50+1, 1, 0), cover)
	}
}

// P28.1: where the ledger doesn't open, there is none, and why tells the error under the word open.
func TestBeginWithout(t *testing.T) {
	p := small()
	good, n := created(t, p, 2)
	rotten, _ := created(t, p, 2)
	rotten.Rot(0, 9, 1)
	rotten.Rot(n, 9, 1)
	armed, _ := created(t, p, 2)
	armed.Arm(1)
	full := generation(t, p, math.MaxUint64, n)
	for _, c := range []struct {
		d    *disk.Disk
		n    int
		want api.Errno
	}{
		{fresh(t, 9), n, api.ErrNone}, {rotten, n, api.ErrRot}, {armed, n, api.ErrDisk}, {full, n, api.ErrFull},
		{good, 0, api.ErrRange}, {good, -1, api.ErrRange}, {good, math.MaxInt, api.ErrRange}, {good, math.MinInt, api.ErrRange}, {fresh(t, 1), 1, api.ErrRange}, {new(disk.Disk), 1, api.ErrRange},
	} {
		g := begins(t, c.d, c.n, p)
		if stands(g) != (state{why: "open: " + c.want.Word()}) {
			t.Fatal(stands(g), c.want)
		}
		went(t, g, "open", c.want)
	}
}

// generation is a disk with a new ledger's text, but of that generation, and room for two records.
func generation(t testing.TB, p plan.Plan, gen uint64, n int) *disk.Disk {
	t.Helper()
	s, e := p.Encode()
	if e != api.OK {
		t.Fatal(e)
	}
	text := string(binary.BigEndian.AppendUint16(nil, uint16(len(s)))) + s + strings.Repeat("\x00", 8+4*len(p.Classes)*(len(p.Contacts)+1))
	d := fresh(t, 2*n+2)
	if slot.Write(d, 0, n, gen, text) != api.OK || d.Sync() != api.OK {
		t.Fatal("the test's own")
	}
	return d
}

// P28.1: a ledger of another plan, be it in whatever, is none: ErrState, under the word open; that plan's own governor has it.
func TestAnotherPlan(t *testing.T) {
	for i, change := range []func(p *plan.Plan){
		func(p *plan.Plan) { p.Mode = plan.Strong },
		func(p *plan.Plan) { p.Prec++ },
		func(p *plan.Plan) { p.Length++ },
		func(p *plan.Plan) { p.Queue++ },
		func(p *plan.Plan) { p.Slack = ratio(1, 8) },
		func(p *plan.Plan) { p.Global.Eps = ratio(4, 2) },
		func(p *plan.Plan) { p.Global.Delta = ratio(2, 2) },
		func(p *plan.Plan) { p.Contact.Eps.Num++ },
		func(p *plan.Plan) { p.Contact.Delta.Num++ },
		func(p *plan.Plan) { p.Tau.Den++ },
		func(p *plan.Plan) { p.Noise.Num++ },
		func(p *plan.Plan) { p.Noise.Den++ },
		func(p *plan.Plan) { p.Noise.Mu++ },
		func(p *plan.Plan) { p.Classes[1].Eps.Den++ },
		func(p *plan.Plan) { p.Classes[0].Delta = ratio(0, 2) },
		func(p *plan.Plan) { p.Classes = p.Classes[:1] },
		func(p *plan.Plan) { p.Classes = append(p.Classes, p.Classes[0]) },
		func(p *plan.Plan) { p.Contacts[1]++ },
		func(p *plan.Plan) { p.Contacts = p.Contacts[1:] },
		func(p *plan.Plan) { p.Contacts = append(p.Contacts, 30) },
	} {
		p, other := small(), small()
		change(&other)
		n := parts(t, loose(16, 8))
		d := fresh(t, 2*n+2)
		if e := Create(d, n, p); e != api.OK {
			t.Fatal(e)
		}
		if l, e := ledger.Open(d, n); e != api.OK || l.Use(7, 0, 0) != api.OK {
			t.Fatal(e)
		}
		g := begins(t, d, n, other)
		went(t, g, "open", api.ErrState)
		if stands(g) != (state{why: "open: state"}) {
			t.Fatal(i, stands(g))
		}
		// By most of these plans the verdict is Accept.
		if v, e := g.Report(met(1, 3)); v == audit.None || e != api.OK {
			t.Fatal(v, e)
		}
		many := len(other.Contacts)
		pushes(t, g, other.Contacts[many-1], strings.Repeat("a", other.Length))
		if r := g.Round(tells(uint64(2*many-1), 1, 0), tape.New("zzz")); r != (Result{Taken: true, Envelope: "zzz"[:other.Length]}) {
			t.Fatal(i, r)
		}
		if g := begins(t, d, n, p); !g.Open() || g.Table() != used(7, [2]int{0, 0}) {
			t.Fatal(i, stands(g))
		}
	}
}

// P28.1: Push is layer 27's, with or without a ledger.
func TestPush(t *testing.T) {
	p := small()
	d, n := created(t, p, 2)
	for _, g := range []*Governor{begins(t, d, n, p), begins(t, fresh(t, 9), n, p)} {
		for i, c := range []struct {
			contact uint64
			payload string
			want    api.Errno
			waiting int
		}{
			{11, "", api.ErrName, 0}, {0, "aa", api.ErrName, 0}, {math.MaxUint64, "aa", api.ErrName, 0},
			{10, "", api.ErrForm, 0}, {10, "a", api.ErrForm, 0}, {10, "aaa", api.ErrForm, 0},
			{10, "aa", api.OK, 1}, {10, "\x00\xff", api.OK, 2}, {10, "aa", api.OK, 3},
			{10, "aa", api.ErrFull, 3}, {10, "a", api.ErrForm, 3}, {20, "bb", api.OK, 4}, {30, "bb", api.ErrName, 4},
		} {
			if e := g.Push(c.contact, c.payload); e != c.want || g.Waiting() != c.waiting {
				t.Fatal(i, e, g.Waiting())
			}
		}
	}
}

// P28.1: a report's verdict is posted in the book, whatever it is, with or without a ledger.
func TestReport(t *testing.T) {
	p := small()
	d, n := created(t, p, 2)
	for _, g := range []*Governor{begins(t, d, n, p), begins(t, fresh(t, 9), n, p)} {
		was, ops := stands(g), d.Ops()
		epoch := uint32(0)
		for want, count := range counts {
			for _, epoch := range []uint32{epoch, top - epoch} {
				if v, e := g.Report(met(epoch, count)); v != want || e != api.OK {
					t.Fatal(v, e, want)
				}
				// The epoch has a verdict now, and keeps it, whatever comes.
				for _, other := range counts {
					if v, e := g.Report(met(epoch, other)); v != audit.None || e != api.ErrState {
						t.Fatal(v, e)
					}
				}
			}
			epoch++
		}
		if stands(g) != was || d.Ops() != ops {
			t.Fatal("a report does something else")
		}
	}
}

// P28.1: of a report's errors OpenReport's is the first, then Judge's, then Post's; the verdict is None, and nothing is posted.
func TestReportWrong(t *testing.T) {
	g, _ := begun(t, small(), 2)
	wrong := func(s string, want api.Errno) {
		t.Helper()
		if v, e := g.Report(s); v != audit.None || e != want {
			t.Fatal(v, e, want)
		}
	}
	bad := func(epoch uint32) {
		t.Helper()
		good := met(epoch, 3)
		wrong("", api.ErrShort)
		wrong(tells(1, 1, 1), api.ErrForm)
		wrong("h"+good[1:], api.ErrForm)
		wrong(good[:len(good)-1], api.ErrShort)
		wrong(good[:1], api.ErrShort)
		wrong(good+"\x00", api.ErrLong)
		wrong(good[:len(good)-1]+"\x00", api.ErrForm) // met no times
		wrong(good[:5]+"\x00\x00", api.ErrForm)       // no rows
		wrong(met(epoch, 1<<31+1), api.ErrRange)
		wrong(met(epoch, top), api.ErrRange)
	}
	bad(5)
	accepts(t, g, 5)
	bad(5)
	wrong(met(5, 1<<31), api.ErrState)
	for epoch := range uint32(63) {
		accepts(t, g, 100+epoch)
	}
	bad(5)
	bad(6)
	wrong(met(5, 3), api.ErrState)
	wrong(met(6, 3), api.ErrFull)
	wrong(met(0, 0), api.ErrFull)
	// A crash empties the book.
	g.Crash(nil)
	accepts(t, g, 5, 6)
}

// P28.1: of a report with more rows than one the verdict is that of all of them.
func TestReportRows(t *testing.T) {
	g, _ := begun(t, small(), 2)
	s := "H\x00\x00\x00\x01\x00\x03" + "\x00\x00\x00\x00\x00\x00\x00\x01" + "\x00\x00\x00\x03\x00\x00\x00\x08" + "\x00\x00\x00\x06\x00\x00\x00\x01"
	if v, e := g.Report(s); v != audit.Accept || e != api.OK {
		t.Fatal(v, e)
	}
	if v, e := g.Report(strings.Replace(strings.Replace(s, "\x00\x00\x00\x01\x00\x03", "\x00\x00\x00\x02\x00\x03", 1), "\x01\x00\x00\x00\x03", "\xff\x00\x00\x00\x03", 1)); v != audit.Reject || e != api.OK {
		t.Fatal(v, e)
	}
}

// P28.2: why a round is refused, of these the first; nothing is done, and a round that isn't refused is told as ever.
func TestRefused(t *testing.T) {
	p := loose(2, 3)
	d, n := created(t, p, 9)
	for _, g := range []*Governor{begins(t, d, n, p), begins(t, fresh(t, 9), n, p)} {
		accepts(t, g, 1)
		pushes(t, g, 10, "aa")
		comes(t, g, tells(5, 1, 0), cover)
		was, ops := stands(g), d.Ops()
		look := func(s, bits string, want api.Errno) {
			t.Helper()
			d.Arm(1)
			if r := g.Round(s, tape.New(bits)); r != refused(want) {
				t.Fatal(r, want)
			}
			if stands(g) != was || d.Ops() != ops {
				t.Fatal("a round that is refused does something")
			}
			if d.Arm(0); d.Waiting() != 0 {
				t.Fatal("something waits")
			}
		}
		old, class := tells(5, 1, 2), tells(5, 1, 3)
		for _, bits := range []string{"zz", "z", ""} {
			look("", bits, api.ErrShort)
			look("r"+class[1:], bits, api.ErrForm)
			look(met(1, 3), bits, api.ErrForm)
			look("H", bits, api.ErrForm)
			look(class[:13], bits, api.ErrShort)
			look("R", bits, api.ErrShort)
			look(class+"\x00", bits, api.ErrLong)
			look(old+"\x00", bits, api.ErrLong)
			for _, c := range []byte{3, 4, 8, 16, 127, 128, 255} {
				look(tells(5, 1, c), bits, api.ErrClass)
				look(tells(6, 1, c), bits, api.ErrClass)
				look(tells(0, 9, c), bits, api.ErrClass)
			}
			for _, number := range []uint64{0, 1, 4, 5} {
				look(tells(number, 1, 2), bits, api.ErrOld)
				look(tells(number, 9, 0), bits, api.ErrOld)
			}
		}
		look(tells(6, 1, 2), "z", api.ErrBits)
		look(tells(math.MaxUint64, 9, 0), "", api.ErrBits)
		want := cover
		if g.Open() {
			want = real("aa")
		}
		comes(t, g, tells(6, 1, 2), want)
		comes(t, g, tells(math.MaxUint64, 1, 0), cover)
		was, ops = stands(g), d.Ops()
		look(tells(math.MaxUint64, 1, 0), "zz", api.ErrOld)
		look(tells(7, 1, 0), "zz", api.ErrOld)
	}
}

// P28.2: at the beginning the round 0 is old, the round 1 isn't, where there is no ledger, too.
func TestFirst(t *testing.T) {
	p := small()
	d, n := created(t, p, 2)
	for _, g := range []*Governor{begins(t, d, n, p), begins(t, fresh(t, 9), n, p)} {
		comes(t, g, tells(0, 1, 0), refused(api.ErrOld))
		comes(t, g, tells(1, 1, 0), cover)
		if g.Last() != 1 {
			t.Fatal(g.Last())
		}
	}
}

// P28.2: a tape with 8 times Length bits is enough, one with one less isn't, wherever it was read up to; cover is what is next on it.
func TestCover(t *testing.T) {
	for _, length := range []int{1, 2, 31, 256} {
		p := small()
		p.Length = length
		g, d := begun(t, p, 3)
		var bytes []byte
		for i := range length + 2 {
			bytes = append(bytes, byte(i*i*7+length))
		}
		full := tape.New(string(bytes))
		for from := range 25 {
			_, x, e := full.Read(from)
			if e != api.OK {
				t.Fatal(e)
			}
			ops, last := d.Ops(), g.Last()
			r := g.Round(tells(uint64(from)+1, 1, 0), x)
			if from > 16 {
				if r != refused(api.ErrBits) || d.Ops() != ops || g.Last() != last {
					t.Fatal(from, r)
				}
				continue
			}
			var want []byte
			for i := range length {
				at := from/8 + i
				word := uint16(bytes[at]) << 8
				if at+1 < len(bytes) {
					word |= uint16(bytes[at+1])
				}
				want = append(want, byte(word<<(from%8)>>8))
			}
			if r != (Result{Taken: true, Envelope: string(want)}) || d.Ops() == ops || g.Last() != uint64(from)+1 {
				t.Fatal(from, r, want)
			}
		}
	}
}

// P28.2: a real round, too, is refused, where the tape is short.
func TestRealNeedsBits(t *testing.T) {
	g, _ := begun(t, small(), 3)
	accepts(t, g, 1)
	pushes(t, g, 20, "aa")
	for _, s := range []string{"", "z"} {
		if r := g.Round(tells(1, 1, 0), tape.New(s)); r != refused(api.ErrBits) || g.Waiting() != 1 {
			t.Fatal(r)
		}
	}
	comes(t, g, tells(1, 1, 0), real("aa"))
}

// P28.2, P28.4: a round's contact is what is left of its number, divided by how many there are; its class is the one told.
func TestWhose(t *testing.T) {
	for _, contacts := range []int{1, 2, 3, 7, 16} {
		p := loose(contacts, 8)
		p.Queue = 64
		g, _ := begun(t, p, 5)
		accepts(t, g, 9)
		for i, c := range p.Contacts {
			for j := range 9 {
				pushes(t, g, c, string([]byte{byte(i), byte(j)}))
			}
		}
		var x table.Table
		next := make([]byte, contacts)
		for k, number := range []uint64{1, 2, 3, 15, 16, 17, 100, 1<<32 - 1, 1 << 32, 1<<32 + 1, 1<<63 - 1, 1 << 63, 1<<63 + 1, math.MaxUint64 - 1, math.MaxUint64} {
			i, class := int(number%uint64(contacts)), byte(k%8)
			if next[i] == 9 {
				break
			}
			comes(t, g, tells(number, 9, class), real(string([]byte{byte(i), next[i]})))
			next[i]++
			x.Last = number
			x.Rows[i][class]++
			x.Global[class]++
			if g.Table() != x || g.Last() != number {
				t.Fatal(g.Table(), x)
			}
		}
		has(t, g, x)
	}
}

// P28.2, P28.3: whatever of what a real round needs is wanting, it is cover, and entered without a use.
func TestNotReal(t *testing.T) {
	p := small()
	for name, c := range map[string]struct {
		arrange func(g *Governor)
		epoch   uint32
		class   byte
		want    Result
		uses    [][2]int
	}{
		"all":         {func(g *Governor) { accepts(t, g, 1); pushes(t, g, 20, "aa") }, 1, 0, real("aa"), [][2]int{{1, 0}}},
		"none":        {func(g *Governor) { pushes(t, g, 20, "aa") }, 1, 0, cover, nil},
		"reject":      {func(g *Governor) { g.Report(met(1, 0)); pushes(t, g, 20, "aa") }, 1, 0, cover, nil},
		"unclear":     {func(g *Governor) { g.Report(met(1, 2)); pushes(t, g, 20, "aa") }, 1, 0, cover, nil},
		"other epoch": {func(g *Governor) { accepts(t, g, 0, 2, 1<<24); pushes(t, g, 20, "aa") }, 1, 0, cover, nil},
		"wrong":       {func(g *Governor) { g.Report(met(1, 3) + " "); pushes(t, g, 20, "aa") }, 1, 0, cover, nil},
		"later":       {func(g *Governor) { g.Report(met(1, 0)); g.Report(met(1, 3)); pushes(t, g, 20, "aa") }, 1, 0, cover, nil},
		"empty":       {func(g *Governor) { accepts(t, g, 1) }, 1, 0, cover, nil},
		"other queue": {func(g *Governor) { accepts(t, g, 1); pushes(t, g, 10, "aa", "bb") }, 1, 0, cover, nil},
	} {
		g, d := begun(t, p, 3)
		c.arrange(g)
		waiting, ops := g.Waiting(), d.Ops()
		comes(t, g, tells(1, c.epoch, c.class), c.want)
		if c.want.Real {
			waiting--
		}
		if g.Waiting() != waiting || d.Ops() != ops+2 || g.Why() != nil || g.Last() != 1 {
			t.Fatal(name, g.Waiting(), d.Ops()-ops, g.Why())
		}
		has(t, g, used(1, c.uses...))
	}
}

// P28.2, P28.3: what a contact's cap, or that of all, doesn't afford is cover, and entered without a use; another class, or contact, may be afforded yet.
func TestNotAfforded(t *testing.T) {
	g, d := begun(t, small(), 20)
	accepts(t, g, 1)
	var sent []int
	x := table.Table{}
	// Classes are a quarter and a half. Five quarters are a contact's cap, eight are that of all.
	for i, c := range []struct {
		contact uint64
		class   byte
		real    bool
	}{
		{1, 1, true}, {1, 1, true}, {1, 1, false}, {1, 0, true}, {1, 0, false},
		{0, 1, true}, {0, 1, false}, {0, 0, true}, {0, 0, false}, {1, 0, false},
	} {
		number := 2*uint64(i) + 2 + c.contact
		if g.queues.Len(int(c.contact)) == 0 {
			pushes(t, g, 10*c.contact+10, "aa")
		}
		ops, waiting := d.Ops(), g.Waiting()
		x.Last = number
		if c.real {
			comes(t, g, tells(number, 1, c.class), real("aa"))
			x.Rows[c.contact][c.class]++
			x.Global[c.class]++
			waiting--
			sent = append(sent, i)
		} else {
			comes(t, g, tells(number, 1, c.class), cover)
		}
		if g.Table() != x || g.Waiting() != waiting || d.Ops() != ops+2 || g.Why() != nil {
			t.Fatal(i, g.Table(), x, g.Why())
		}
	}
	if len(sent) != 5 {
		t.Fatal("the test's own")
	}
	has(t, g, x)
}

// P28.2: where the record's write fails, why is ErrDisk under the word round, the envelope is cover, the payload waits, and the table is as it was; the ledger stays.
func TestWriteFails(t *testing.T) {
	g, d := begun(t, small(), 3)
	accepts(t, g, 1)
	pushes(t, g, 20, "aa", "bb")
	pushes(t, g, 10, "cc")
	d.Arm(1)
	comes(t, g, tells(5, 1, 0), cover)
	went(t, g, "round", api.ErrDisk)
	if stands(g) != (state{waiting: 3, last: 5, open: true, why: "round: disk"}) {
		t.Fatal(stands(g))
	}
	// The round was taken, though the table hasn't it.
	comes(t, g, tells(5, 1, 0), refused(api.ErrOld))
	comes(t, g, tells(4, 1, 0), refused(api.ErrOld))
	comes(t, g, tells(7, 1, 0), real("aa"))
	comes(t, g, tells(8, 1, 1), real("cc"))
	// Why stays.
	went(t, g, "round", api.ErrDisk)
	has(t, g, used(8, [2]int{1, 0}, [2]int{0, 1}))
	went(t, g, "", api.OK)
}

// P28.2: a round without a use whose write fails is likewise.
func TestCoverFails(t *testing.T) {
	for arm := 1; arm <= 2; arm++ {
		g, d := begun(t, small(), 3)
		d.Arm(arm)
		comes(t, g, tells(5, 1, 0), cover)
		went(t, g, "round", api.ErrDisk)
		if g.Last() != 5 || !g.Open() || g.Table() != used([]uint64{0, 0, 5}[arm]) {
			t.Fatal(stands(g))
		}
		comes(t, g, tells(6, 1, 0), cover)
		has(t, g, used(6))
	}
}

// P28.2, P28.3: where the record's sync fails, the table has the use, but the payload waits; it is sent later on, by a use of its own.
func TestSyncFails(t *testing.T) {
	for _, keep := range []bool{true, false} {
		g, d := begun(t, small(), 3)
		accepts(t, g, 1)
		pushes(t, g, 20, "aa", "bb")
		comes(t, g, tells(1, 1, 0), real("aa"))
		pushes(t, g, 20, "cc")
		d.Arm(2)
		comes(t, g, tells(5, 1, 0), cover)
		went(t, g, "round", api.ErrDisk)
		if stands(g) != (state{table: used(5, [2]int{1, 0}, [2]int{1, 0}), waiting: 2, last: 5, open: true, why: "round: disk"}) {
			t.Fatal(stands(g))
		}
		comes(t, g, tells(5, 1, 0), refused(api.ErrOld))
		if keep {
			comes(t, g, tells(7, 1, 0), real("bb"))
			has(t, g, used(7, [2]int{1, 0}, [2]int{1, 0}, [2]int{1, 0}))
			continue
		}
		g.Crash([]bool{keep})
		if stands(g) != (state{table: used(1, [2]int{1, 0}), last: 1, open: true}) {
			t.Fatal(stands(g))
		}
	}
}

// P28.2: a log that is full is settled ahead of the round; where that fails, the round is cover; later ones go on.
func TestSettleFails(t *testing.T) {
	p := small()
	n := parts(t, p)
	for arm := 1; arm <= n+3; arm++ {
		g, d := begun(t, p, 1)
		accepts(t, g, 1)
		pushes(t, g, 20, "aa", "bb")
		comes(t, g, tells(1, 1, 0), real("aa"))
		d.Arm(arm)
		comes(t, g, tells(3, 1, 0), cover)
		d.Arm(0)
		went(t, g, "round", api.ErrDisk)
		uses := [][2]int{{1, 0}}
		if arm == n+3 { // the record's own sync
			uses = append(uses, uses[0])
		}
		last := []uint64{1, 3}[len(uses)-1]
		if g.Table() != used(last, uses...) || g.Waiting() != 1 || g.Last() != 3 {
			t.Fatal(arm, stands(g))
		}
		comes(t, g, tells(5, 1, 0), real("bb"))
		has(t, g, used(5, append(uses, [2]int{1, 0})...))
	}
}

// P28.2: other errors of the ledger are told as they are: ErrFull, where there is no greater generation. The last one that went wrong is why.
func TestWhyIsTheLast(t *testing.T) {
	p := small()
	n := parts(t, p)
	d := generation(t, p, math.MaxUint64-1, n)
	g := begins(t, d, n, p)
	accepts(t, g, 1)
	pushes(t, g, 20, "aa", "bb")
	d.Arm(1)
	comes(t, g, tells(1, 1, 0), cover)
	went(t, g, "round", api.ErrDisk)
	comes(t, g, tells(3, 1, 0), real("aa"))
	comes(t, g, tells(4, 1, 0), cover)
	comes(t, g, tells(5, 1, 0), cover)
	went(t, g, "round", api.ErrFull)
	if g.Table() != used(4, [2]int{1, 0}) || g.Waiting() != 1 || !g.Open() || g.Last() != 5 {
		t.Fatal(stands(g))
	}
	comes(t, g, tells(6, 1, 0), cover)
	went(t, g, "round", api.ErrFull)
	g.Crash(nil)
	went(t, g, "open", api.ErrFull)
}

// P28.2, P28.3: without a ledger rounds are taken, as cover, the disk isn't asked, and why stays.
func TestWithoutLedger(t *testing.T) {
	p := small()
	d := fresh(t, 9)
	g := begins(t, d, 2, p)
	accepts(t, g, 1)
	pushes(t, g, 20, "aa", "bb")
	pushes(t, g, 10, "cc")
	d.Arm(1)
	for number := range uint64(6) {
		comes(t, g, tells(number+1, 1, 0), cover)
		if stands(g) != (state{waiting: 3, last: number + 1, why: "open: none"}) {
			t.Fatal(stands(g))
		}
		comes(t, g, tells(number+1, 1, 0), refused(api.ErrOld))
	}
	if d.Sync() != api.ErrDisk {
		t.Fatal("the disk was asked")
	}
	if d.Waiting() != 0 || d.Ops() != 0 {
		t.Fatal("the disk was asked")
	}
	g.Crash(nil)
	if stands(g) != (state{why: "open: none"}) {
		t.Fatal(stands(g))
	}
	// What was laid onto the disk in between is found behind a crash.
	if e := Create(d, 2, p); e != api.OK {
		t.Fatal(e)
	}
	comes(t, g, tells(3, 1, 0), cover)
	went(t, g, "open", api.ErrNone)
	g.Crash(nil)
	if stands(g) != (state{open: true}) {
		t.Fatal(stands(g))
	}
}

// P28.1: a crash keeps of what waits what is told; queues and book are empty then, and the last round is what lasts.
func TestCrash(t *testing.T) {
	for _, keep := range [][]bool{nil, {false}, {true}, {false, true}, {true, true, true}} {
		g, d := begun(t, loose(2, 2), 9)
		accepts(t, g, 1, 2)
		pushes(t, g, 10, "aa", "bb")
		pushes(t, g, 20, "cc")
		comes(t, g, tells(2, 2, 1), real("aa"))
		d.Arm(2)
		comes(t, g, tells(4, 2, 1), cover)
		if d.Waiting() != 1 {
			t.Fatal("the test's own")
		}
		g.Crash(keep)
		want := used(2, [2]int{0, 1})
		if len(keep) > 0 && keep[0] {
			want = used(4, [2]int{0, 1}, [2]int{0, 1})
		}
		if stands(g) != (state{table: want, last: want.Last, open: true}) || d.Waiting() != 0 {
			t.Fatal(stands(g))
		}
		comes(t, g, tells(want.Last, 2, 1), refused(api.ErrOld))
		pushes(t, g, 10, "dd", "ee", "ff")
		comes(t, g, tells(want.Last+2, 2, 1), cover)
		accepts(t, g, 2)
		comes(t, g, tells(want.Last+4, 2, 1), real("dd"))
	}
}

// P28.1: a governor that begins anew finds what has become of the disk in between, and may lose its ledger, and find it again.
func TestCrashLoses(t *testing.T) {
	g, d := begun(t, small(), 3)
	accepts(t, g, 1)
	pushes(t, g, 20, "aa")
	comes(t, g, tells(7, 1, 0), real("aa"))
	d.Arm(1)
	g.Crash(nil)
	if stands(g) != (state{why: "open: disk"}) {
		t.Fatal(stands(g))
	}
	comes(t, g, tells(1, 1, 0), cover)
	g.Crash(nil)
	if stands(g) != (state{table: used(7, [2]int{1, 0}), last: 7, open: true}) {
		t.Fatal(stands(g))
	}
	for i := range d.Size() {
		d.Rot(i, 5, 0x40)
	}
	g.Crash(nil)
	if stands(g) != (state{why: "open: rot"}) {
		t.Fatal(stands(g))
	}
	accepts(t, g, 1)
	pushes(t, g, 20, "aa")
	comes(t, g, tells(1, 1, 0), cover)
	for i := range d.Size() {
		d.Rot(i, 5, 0x40)
	}
	g.Crash(nil)
	if stands(g) != (state{table: used(7, [2]int{1, 0}), last: 7, open: true}) {
		t.Fatal(stands(g))
	}
}

// P28.4: payloads of a contact leave in the order in which they came, whatever becomes of other contacts.
func TestOrder(t *testing.T) {
	p := loose(3, 1)
	p.Queue, p.Length = 64, 1
	g, _ := begun(t, p, 7)
	accepts(t, g, 1)
	for k := range 64 {
		for i, c := range p.Contacts {
			pushes(t, g, c, string([]byte{byte(64*i + k)}))
		}
	}
	for k := range 64 * 3 {
		number := uint64(k) + 3
		want := real(string([]byte{byte(64*(k%3) + k/3)}))
		if r := g.Round(tells(number, 1, 0), tape.New("z")); r != want {
			t.Fatal(r, want)
		}
		if g.Waiting() != 64*3-k-1 {
			t.Fatal(g.Waiting())
		}
	}
	if r := g.Round(tells(999, 1, 0), tape.New("z")); r != (Result{Taken: true, Envelope: "z"}) {
		t.Fatal(r)
	}
}

// P28.2: what a trouble tells.
func TestTrouble(t *testing.T) {
	for number := api.OK; number <= api.ErrOther+2; number++ {
		for _, where := range []string{"", "open", "a: b"} {
			x := Trouble{Where: where, Err: number}
			if x.Error() != where+": "+number.Word() || x.Unwrap() != error(number) || !errors.Is(x, number) || errors.Is(x, number+1) {
				t.Fatal(x.Error())
			}
		}
	}
	other := errors.New("lost")
	x := Trouble{"a", Trouble{"b", other}}
	if x.Error() != "a: b: lost" || !errors.Is(x, other) || x.Unwrap() != error(Trouble{"b", other}) {
		t.Fatal(x.Error())
	}
	// R1.
	if x := (Trouble{}); x.Error() != ": " || x.Unwrap() != nil {
		t.Fatal(x.Error())
	}
}

// R3: what is handed in isn't changed, and not kept, but for the disk.
func TestNothingIsShared(t *testing.T) {
	p := small()
	p.Classes, p.Contacts = slices.Grow(p.Classes, 4), slices.Grow(p.Contacts, 4)
	d, n := created(t, p, 3)
	g := begins(t, d, n, p)
	if !reflect.DeepEqual(p, small()) || slices.Max(p.Contacts[:cap(p.Contacts)][2:]) != 0 {
		t.Fatal(p)
	}
	clear(p.Classes[:cap(p.Classes)])
	clear(p.Contacts[:cap(p.Contacts)])
	for i := range uint64(2) {
		accepts(t, g, 1)
		pushes(t, g, 20, "aa")
		x := g.Table()
		x.Last, x.Rows[1][0] = math.MaxUint64, top
		comes(t, g, tells(2*i+1, 1, 0), real("aa"))
		keep := []bool{true}
		if g.Crash(keep); !keep[0] || !g.Open() {
			t.Fatal(g.Why())
		}
	}
	has(t, g, used(3, [2]int{1, 0}, [2]int{1, 0}))
}

// R5: governors of two disks don't know of one another.
func TestApart(t *testing.T) {
	a, _ := begun(t, small(), 3)
	b, _ := begun(t, small(), 3)
	accepts(t, a, 1)
	pushes(t, a, 20, "aa")
	pushes(t, b, 20, "bb")
	comes(t, b, tells(1, 1, 0), cover)
	comes(t, a, tells(1, 1, 0), real("aa"))
	if a.Waiting() != 0 || b.Waiting() != 1 {
		t.Fatal("they do")
	}
	has(t, a, used(1, [2]int{1, 0}))
	has(t, b, used(1))
}

// R1: of the zero governor nothing is promised, but its calls end, and don't panic.
func TestZeroGovernor(t *testing.T) {
	var g Governor
	g.Crash([]bool{true})
	if g.Push(10, "aa") == api.OK || g.Push(0, "") == api.OK || g.Open() || g.Waiting() != 0 || g.Table() != (table.Table{}) || g.Last() != 0 || g.Why() != nil {
		t.Fatal("it has something")
	}
	if v, e := g.Report(met(1, 3)); v != audit.None || e == api.OK {
		t.Fatal(v, e)
	}
	comes(t, &g, tells(1, 1, 0), refused(api.ErrClass))
}
