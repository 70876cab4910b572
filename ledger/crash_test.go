package ledger

import (
	"math/rand/v2"
	"slices"
	"testing"

	"chaff/api"
	"chaff/disk"
	"chaff/plan"
	"chaff/table"
)

// story is a ledger, and what its caller knows of it.
type story struct {
	p       plan.Plan
	n, room int
	d       *disk.Disk
	l       *Ledger
	next    int           // how many records the log has
	stuck   bool          // the last settling went wrong
	past    []table.Table // what may be there behind a crash: the first lasts
	sure    table.Table   // the uses that were entered with OK
	doubts  uint64        // crashes, and syncs that failed
}

// begin is a story of a new ledger.
func begin(t testing.TB, p plan.Plan, room int) *story {
	t.Helper()
	l, d, n := begun(t, p, room)
	return &story{p: p, n: n, room: room, d: d, l: l, past: []table.Table{{}}}
}

// now is the table as it should be.
func (s *story) now() table.Table { return s.past[len(s.past)-1] }

// parts is how many sectors the text takes, which is alike of each table.
func (s *story) parts(t testing.TB) int { return parts(laid(t, s.p, table.Table{})) }

// enter enters a round, with a use or none (of a contact below 0), with its write or sync failing where told, and looks that it came to what the chapter tells.
func (s *story) enter(t testing.TB, round uint64, contact, class, fails int) api.Errno {
	t.Helper()
	want, ops := s.comes(t, round, contact, class, fails)
	s.d.Arm(fails)
	before := s.d.Ops()
	var e api.Errno
	if contact < 0 {
		e = s.l.Enter(round)
	} else {
		e = s.l.Use(round, contact, class)
	}
	s.d.Arm(0)
	if e != want || s.d.Ops()-before != ops {
		t.Fatalf("%v and %d done, not %v and %d", e, s.d.Ops()-before, want, ops)
	}
	if e == api.OK && contact >= 0 {
		s.sure = added(s.sure, round, contact, class)
	}
	s.look(t)
	return e
}

// comes is what an entering should come to, and how much is done; it goes on to that.
func (s *story) comes(t testing.TB, round uint64, contact, class, fails int) (api.Errno, int) {
	t.Helper()
	x := s.now()
	switch {
	case round <= x.Last:
		return api.ErrOld, 0
	case contact >= 0 && !s.l.Purse().Affords(x, contact, class):
		return api.ErrLimit, 0
	}
	ahead := 0
	if s.stuck || s.next == s.room {
		ahead = s.parts(t) + 1
		if s.stuck = fails >= 1 && fails <= ahead; s.stuck {
			if fails == ahead {
				s.doubts++
			}
			return api.ErrDisk, fails - 1
		}
		s.next, s.past = 0, []table.Table{x}
	}
	if fails == ahead+1 {
		return api.ErrDisk, ahead
	}
	s.next++
	s.past = append(s.past, added(x, round, contact, class))
	if fails == ahead+2 {
		s.doubts++
		return api.ErrDisk, ahead + 1
	}
	s.past = s.past[len(s.past)-1:]
	return api.OK, ahead + 2
}

// look looks whether the ledger has what it should, and whether that is what P24.3 says.
func (s *story) look(t testing.TB) {
	t.Helper()
	has(t, s.l, s.p, s.now())
	x, u := s.l.Table(), s.l.Purse()
	if !x.Covers(s.sure) || x.Global.Sum() > s.sure.Global.Sum()+s.doubts {
		t.Fatalf("%v, where %v is sure, and there were %d doubts", x, s.sure, s.doubts)
	}
	for i, r := range append([]table.Row{x.Global}, x.Rows[:]...) {
		most := s.p.Contact
		if i == 0 {
			most = s.p.Global
		}
		if spent, e := u.Spend(r); e != api.OK || !u.Within(spent, most) {
			t.Fatal("beyond the caps:", i, r)
		}
	}
}

// open opens the disk, without a crash, with a write or a sync failing where told.
func (s *story) open(t testing.TB, fails int) bool {
	t.Helper()
	waits := s.d.Waiting() > 0
	s.d.Arm(fails)
	ops := s.d.Ops()
	l, e := Open(s.d, s.n)
	s.d.Arm(0)
	did, most := s.d.Ops()-ops, s.parts(t)+1
	if waits { // layer 16 may sync ahead
		most++
	}
	if e != api.OK {
		if e != api.ErrDisk || l != nil || fails < 1 || did != fails-1 || did >= most {
			t.Fatal(l, e, fails, did)
		}
		s.doubts++
		return false
	}
	if did > most || did < s.parts(t)+1 || s.d.Waiting() > 0 {
		t.Fatal(did)
	}
	s.l, s.next, s.stuck = l, 0, false
	s.past = []table.Table{s.now()}
	s.look(t)
	return true
}

// crash crashes, and opens, behind settlings that fail where told: what is there must be one of what may be.
func (s *story) crash(t testing.TB, keep []bool, fails ...int) {
	t.Helper()
	s.d.Crash(keep)
	s.doubts++
	for _, k := range fails {
		s.d.Arm(k)
		if l, e := Open(s.d, s.n); e != api.ErrDisk || l != nil {
			t.Fatal(l, e)
		}
		s.doubts++
	}
	s.d.Arm(0)
	l := opened(t, s.d, s.n)
	if !slices.Contains(s.past, l.Table()) {
		t.Fatalf("%v, not one of %v", l.Table(), s.past)
	}
	s.l, s.next, s.stuck, s.past = l, 0, false, []table.Table{l.Table()}
	s.look(t)
}

// part is one part of what waits, by its number.
func part(number, waits int) []bool {
	var out []bool
	for i := range waits {
		out = append(out, number>>i&1 == 1)
	}
	return out
}

// P24.3: four rounds, each of which may fail at each write and sync, with the disk opened in between or not, and behind them every crash: it opens, has all uses that were entered with OK, and goes on.
func TestCrashes(t *testing.T) {
	most, lost, kept := 0, 0, 0
	for k := range 6 * 6 * 6 * 6 * 2 {
		play := func() *story {
			s := begin(t, small(), 2)
			for i, fails := range []int{k % 6, k / 6 % 6, k / 36 % 6, k / 216 % 6} {
				s.enter(t, uint64(i)+1, (i+1)%3-1, 0, fails)
				if i == 2 && k >= 1296 {
					s.open(t, 0)
				}
			}
			return s
		}
		s := play()
		waits := s.d.Waiting()
		most = max(most, waits)
		for number := range 1 << waits {
			if number > 0 {
				s = play()
			}
			was := s.now()
			s.crash(t, part(number, waits))
			if s.now() == was {
				kept++
			} else {
				lost++
			}
			s.enter(t, 9, 1, 0, 0)
			sure := s.now()
			s.crash(t, nil)
			if s.now() != sure {
				t.Fatal(k, s.now(), sure)
			}
		}
	}
	if most < 4 || lost < 500 || kept < 500 {
		t.Fatal("the test's own:", most, lost, kept)
	}
}

// step does something by chance.
func (s *story) step(t testing.TB, r *rand.Rand) {
	t.Helper()
	steps := s.parts(t) + 4
	switch r.IntN(12) {
	case 0:
		s.open(t, 0)
	case 1:
		// Behind an Open that failed the ledger that there was isn't that of the disk any more.
		for !s.open(t, r.IntN(steps)) {
			if r.IntN(2) == 0 {
				s.crash(t, part(r.IntN(1<<16), r.IntN(16)))
				break
			}
		}
	case 2:
		s.crash(t, part(r.IntN(1<<16), r.IntN(16)))
	case 3:
		s.crash(t, part(r.IntN(1<<16), r.IntN(16)), 1+r.IntN(s.parts(t)+1), 1+r.IntN(s.parts(t)+1))
	default:
		fails := 0
		if r.IntN(3) == 0 {
			fails = r.IntN(steps)
		}
		round := s.now().Last + r.Uint64N(4)
		s.enter(t, round, r.IntN(len(s.p.Contacts)+2)-1, r.IntN(len(s.p.Classes)+1), fails)
	}
}

// P24.2, P24.3: long stories, of plans of all kinds, whose caps are come to.
func TestStories(t *testing.T) {
	r := rand.New(rand.NewPCG(24, 4))
	tight := of(3, 2, capped(6, 1), capped(5, 2))
	strong := tight
	strong.Mode, strong.Slack = plan.Strong, ratio(1, 9)
	strong.Global, strong.Contact = capped(20, 1), capped(12, 1)
	var entered, refused uint64
	for range 60 {
		for _, p := range []plan.Plan{tight, strong, small(), loose(1, 1), loose(16, 8)} {
			s := begin(t, p, 1+r.IntN(5))
			for range 50 {
				s.step(t, r)
			}
			s.crash(t, nil)
			entered += s.sure.Global.Sum()
			if s.l.Purse().Dry(s.now(), 0) {
				refused++
			}
		}
	}
	if entered < 1500 || refused < 20 {
		t.Fatal("the test's own:", entered, refused)
	}
}
