package govern

import (
	"errors"
	"math"
	"math/rand/v2"
	"slices"
	"strings"
	"testing"

	"chaff/api"
	"chaff/audit"
	"chaff/disk"
	"chaff/ledger"
	"chaff/plan"
	"chaff/purse"
	"chaff/table"
	"chaff/tape"
)

// model is what a governor should be, with a disk and a ledger of its own.
type model struct {
	p      plan.Plan
	n      int
	d      *disk.Disk
	l      *ledger.Ledger
	queues map[uint64][]string
	book   map[uint32]audit.Verdict
	last   uint64
	where  string
	err    api.Errno
}

func (m *model) begin() {
	m.queues, m.book, m.last, m.where, m.err = map[uint64][]string{}, map[uint32]audit.Verdict{}, 0, "", 0
	if m.l, m.err = ledger.Open(m.d, m.n); m.err != api.OK {
		m.where = "open"
		return
	}
	m.last = m.l.Table().Last
}

// round is what should come of a round whose number, epoch and class are these.
func (m *model) round(number uint64, epoch uint32, class int, bits int, cover string) Result {
	switch {
	case class >= len(m.p.Classes):
		return Result{Err: api.ErrClass}
	case number <= m.last:
		return Result{Err: api.ErrOld}
	case bits < 8*m.p.Length:
		return Result{Err: api.ErrBits}
	}
	m.last = number
	out := Result{Taken: true, Envelope: cover}
	if m.l == nil {
		return out
	}
	i := int(number % uint64(len(m.p.Contacts)))
	contact := m.p.Contacts[i]
	e := api.ErrLimit
	if m.book[epoch] == audit.Accept && len(m.queues[contact]) > 0 {
		e = m.l.Use(number, i, class)
	}
	if e == api.OK {
		out.Real, out.Envelope = true, m.queues[contact][0]
		m.queues[contact] = m.queues[contact][1:]
	}
	if e == api.ErrLimit {
		e = m.l.Enter(number)
	}
	if e != api.OK {
		m.where, m.err = "round", e
	}
	return out
}

func (m *model) push(contact uint64, payload string) api.Errno {
	switch {
	case !slices.Contains(m.p.Contacts, contact):
		return api.ErrName
	case len(payload) != m.p.Length:
		return api.ErrForm
	case len(m.queues[contact]) == m.p.Queue:
		return api.ErrFull
	}
	m.queues[contact] = append(m.queues[contact], payload)
	return api.OK
}

func (m *model) state() state {
	s := state{last: m.last, open: m.l != nil}
	if m.l != nil {
		s.table = m.l.Table()
	}
	for _, l := range m.queues {
		s.waiting += len(l)
	}
	if m.where != "" {
		s.why = m.where + ": " + m.err.Word()
	}
	return s
}

// story is a governor, and what its caller knows of it.
type story struct {
	m      model
	g      *Governor
	d      *disk.Disk
	r      *rand.Rand
	armed  int
	marks  int // how many payloads were pushed, each of which is another
	sure   table.Table
	doubts uint64
	real   int
	clean  bool // no crash was told
}

// tale is a story of a new governor.
func tale(t testing.TB, p plan.Plan, room int, r *rand.Rand) *story {
	t.Helper()
	s := &story{r: r, clean: true}
	s.g, s.d = begun(t, p, room)
	d, n := created(t, p, room)
	s.m = model{p: p, n: n, d: d}
	s.m.begin()
	return s
}

// payload is one that there wasn't yet, mostly.
func (s *story) payload() string {
	s.marks++
	b := make([]byte, s.m.p.Length)
	for i := range b {
		b[i] = byte(s.marks >> (8 * i))
	}
	return string(b)
}

func (s *story) arm() {
	k := 0
	if s.r.IntN(3) == 0 {
		k = s.r.IntN(9)
	}
	s.d.Arm(k)
	s.m.d.Arm(k)
	s.armed = k
}

// crash crashes; a part of what waits is kept.
func (s *story) crash() {
	var keep []bool
	for range s.r.IntN(8) {
		keep = append(keep, s.r.IntN(2) == 0)
	}
	s.m.d.Crash(keep)
	s.m.begin()
	s.g.Crash(keep)
	s.doubts++
	s.clean = false
}

// round tells a round, mostly one that is taken.
func (s *story) round(t testing.TB) {
	t.Helper()
	number := s.m.last + s.r.Uint64N(5)
	if s.r.IntN(200) == 0 {
		number = s.r.Uint64N(1 << 40)
	}
	epoch, class := uint32(s.r.IntN(4)), s.r.IntN(len(s.m.p.Classes)+1)
	if class == len(s.m.p.Classes) && s.r.IntN(4) > 0 {
		class = 0
	}
	text := make([]byte, s.m.p.Length+1)
	for i := range text {
		text[i] = byte(s.r.Uint32())
	}
	from := s.r.IntN(10)
	_, x, _ := tape.New(string(text)).Read(from)
	drawn := ""
	if from <= 8 {
		drawn, _, _ = x.Bytes(s.m.p.Length)
	}
	want := s.m.round(number, epoch, class, 8*len(text)-from, drawn)
	got := s.g.Round(tells(number, epoch, byte(class)), x)
	if got != want {
		t.Fatalf("%+v, not %+v", got, want)
	}
	if got.Taken != (len(got.Envelope) == s.m.p.Length) || got.Taken != (got.Err == api.OK) {
		t.Fatal(got)
	}
	if got.Real {
		s.real++
		i := int(number % uint64(len(s.m.p.Contacts)))
		s.sure.Rows[i][class]++
		s.sure.Global[class]++
	}
}

// step does something by chance, and looks whether all is as it should be.
func (s *story) step(t testing.TB) {
	t.Helper()
	s.arm()
	errs := s.armed > 0
	switch s.r.IntN(24) {
	case 0:
		s.crash()
	case 1, 2, 3:
		epoch, v := uint32(s.r.IntN(4)), []audit.Verdict{audit.Accept, audit.Accept, audit.Accept, audit.Reject, audit.Unclear}[s.r.IntN(5)]
		want, e := v, api.OK
		if s.m.book[epoch] != audit.None {
			want, e = audit.None, api.ErrState
		} else {
			s.m.book[epoch] = v
		}
		if v, x := s.g.Report(met(epoch, counts[v])); v != want || x != e {
			t.Fatal(v, x, want, e)
		}
	case 4, 5, 6, 7, 8, 9, 10, 11:
		contact, payload := s.m.p.Contacts[s.r.IntN(len(s.m.p.Contacts))]+s.r.Uint64N(9)/8, s.payload()[s.r.IntN(9)/8:]
		if e, want := s.g.Push(contact, payload), s.m.push(contact, payload); e != want {
			t.Fatal(e, want)
		}
	default:
		s.round(t)
	}
	s.d.Arm(0)
	s.m.d.Arm(0)
	if errs {
		s.doubts++
	}
	s.look(t)
}

// look looks whether a governor and its disk are as they should be, and what P28.3 says.
func (s *story) look(t testing.TB) {
	t.Helper()
	if stands(s.g) != s.m.state() {
		t.Fatalf("%+v, not %+v", stands(s.g), s.m.state())
	}
	went(t, s.g, s.m.where, s.m.err)
	same(t, s.d, s.m.d)
	if !s.g.Open() {
		return
	}
	x := s.g.Table()
	if !x.Covers(s.sure) || x.Global.Sum() > s.sure.Global.Sum()+s.doubts {
		t.Fatal(x, s.sure, s.doubts)
	}
	u, e := purse.New(s.m.p)
	if e != api.OK {
		t.Fatal(e)
	}
	for i, r := range append([]table.Row{x.Global}, x.Rows[:]...) {
		most := s.m.p.Contact
		if i == 0 {
			most = s.m.p.Global
		}
		if spent, e := u.Spend(r); e != api.OK || !u.Within(spent, most) {
			t.Fatal("beyond the caps:", i, r)
		}
	}
}

// P28.1 to P28.4: long stories, of plans of all kinds, whose caps are come to.
func TestStories(t *testing.T) {
	r := rand.New(rand.NewPCG(28, 1))
	tight := of(3, 2, eps(6, 1), eps(5, 2))
	strong := tight
	strong.Mode, strong.Slack = plan.Strong, ratio(1, 9)
	strong.Global, strong.Contact = eps(20, 1), eps(12, 1)
	most := loose(16, 8)
	most.Length, most.Queue = 256, 64
	sent, dry := 0, 0
	for k := range 40 {
		for _, p := range []plan.Plan{tight, strong, small(), loose(1, 1), most} {
			s := tale(t, p, 1+k%5, r)
			for range 150 {
				s.step(t)
			}
			sent += s.real
			if u, _ := purse.New(p); u.Dry(s.g.Table(), 0) {
				dry++
			}
		}
	}
	if sent < 800 || dry < 15 {
		t.Fatal("the test's own:", sent, dry)
	}
}

// P28.4, W4: where the disk does what it is asked, and nothing crashes, each payload that was pushed is sent, in its contact's order, once.
func TestEachOnce(t *testing.T) {
	r := rand.New(rand.NewPCG(28, 4))
	p := loose(3, 2)
	p.Length, p.Queue = 4, 64
	for range 20 {
		g, _ := begun(t, p, 4)
		accepts(t, g, 1)
		var pushed, sent [3][]string
		number := uint64(0)
		tell := func(epoch uint32) {
			number += 1 + r.Uint64N(3)
			x := g.Round(tells(number, epoch, byte(r.IntN(2))), tape.New("----"))
			if i := number % 3; x.Real {
				sent[i] = append(sent[i], x.Envelope)
			} else if x.Envelope != "----" || epoch == 1 && len(pushed[i]) > len(sent[i]) {
				t.Fatal(x)
			}
		}
		for k := range 150 {
			i := r.IntN(3)
			s := string([]byte{byte(i), byte(k), byte(r.IntN(2)), 0})
			if len(pushed[i])-len(sent[i]) < 64 {
				pushes(t, g, p.Contacts[i], s)
				pushed[i] = append(pushed[i], s)
			}
			tell(uint32(r.IntN(3)))
		}
		for g.Waiting() > 0 {
			tell(1)
		}
		for i := range 3 {
			if !slices.Equal(pushed[i], sent[i]) {
				t.Fatal(pushed[i], sent[i])
			}
		}
	}
}

// P28.5, W6: two governors that are told the same, and are pushed other payloads, or none: what is refused, and taken, how long envelopes are, and what the disk is asked are alike.
func TestBlind(t *testing.T) {
	r := rand.New(rand.NewPCG(28, 5))
	apart := 0
	for k := range 200 {
		p := []plan.Plan{small(), of(3, 2, eps(6, 1), eps(5, 2)), loose(2, 3)}[k%3]
		a, d := begun(t, p, 1+k%4)
		b, f := begun(t, p, 1+k%4)
		for range 120 {
			if r.IntN(3) == 0 {
				arm := r.IntN(9)
				d.Arm(arm)
				f.Arm(arm)
			}
			switch r.IntN(12) {
			case 0:
				s := met(uint32(r.IntN(3)), []uint32{3, 3, 3, 0, 2}[r.IntN(5)])
				v, e := a.Report(s)
				if w, x := b.Report(s); v != w || e != x {
					t.Fatal(v, w, e, x)
				}
			case 1:
				if r.IntN(3) == 0 {
					keep := []bool{r.IntN(2) == 0, r.IntN(2) == 0, r.IntN(2) == 0, r.IntN(2) == 0}
					a.Crash(keep)
					b.Crash(keep)
				}
			case 2, 3, 4:
				a.Push(p.Contacts[r.IntN(len(p.Contacts))], strings.Repeat("a", r.IntN(4)))
			case 5:
				if k%2 == 0 {
					b.Push(p.Contacts[r.IntN(len(p.Contacts))], "bb")
				}
			default:
				s := tells(a.Last()+r.Uint64N(4), uint32(r.IntN(3)), byte(r.IntN(4)))
				x := tape.New("zzz"[:3-r.IntN(5)/3])
				one, other := a.Round(s, x), b.Round(s, x)
				if one.Err != other.Err || one.Taken != other.Taken || len(one.Envelope) != len(other.Envelope) {
					t.Fatal(one, other)
				}
				if one.Taken && len(one.Envelope) != p.Length {
					t.Fatal(one)
				}
				if one.Real != other.Real {
					apart++
				}
			}
			if d.Ops() != f.Ops() || d.Waiting() != f.Waiting() || a.Last() != b.Last() || a.Open() != b.Open() || !alikeWhy(a.Why(), b.Why()) {
				t.Fatal("what is asked of the disk hangs on what is pushed")
			}
		}
	}
	if apart < 200 {
		t.Fatal("the test's own:", apart)
	}
}

// alikeWhy tells whether two troubles that may be nil tell the same.
func alikeWhy(a, b error) bool {
	var x, y Trouble
	return errors.As(a, &x) == errors.As(b, &y) && x == y
}

// P28.3: each way in which a round may fail, with each part of what waits kept in a crash behind it: the table covers what was sent, and has at most one more for each.
func TestEachCrash(t *testing.T) {
	p := small()
	n := parts(t, p)
	lost, kept := 0, 0
	for fails := range (n + 4) * (n + 4) {
		for part := range 16 {
			g, d := begun(t, p, 1)
			accepts(t, g, 1)
			pushes(t, g, 20, "aa", "bb", "cc")
			var sure table.Table
			doubts := uint64(1)
			for i, k := range []int{fails % (n + 4), fails / (n + 4)} {
				d.Arm(k)
				before := d.Ops()
				if r := g.Round(tells(uint64(2*i)+1, 1, 0), tape.New("zz")); r.Real {
					sure.Rows[1][0]++
					sure.Global[0]++
				} else if before == d.Ops() && k != 1 {
					t.Fatal("the test's own")
				} else {
					doubts++
				}
			}
			d.Arm(0)
			was := g.Table()
			g.Crash([]bool{part&1 > 0, part&2 > 0, part&4 > 0, part&8 > 0})
			x := g.Table()
			if !g.Open() || !x.Covers(sure) || x.Global.Sum() > sure.Global.Sum()+doubts {
				t.Fatal(g.Why(), x, sure)
			}
			if x == was {
				kept++
			} else {
				lost++
			}
			accepts(t, g, 1)
			pushes(t, g, 20, "dd")
			comes(t, g, tells(math.MaxUint64, 1, 0), real("dd"))
		}
	}
	if lost < 50 || kept < 50 {
		t.Fatal("the test's own:", lost, kept)
	}
}
