package vault

import (
	"math/rand/v2"
	"slices"
	"strconv"
	"strings"
	"testing"

	"chaff/api"
	"chaff/disk"
)

// story is a vault, and what its caller knows of it: what must be there behind every crash, and what may.
type story struct {
	d       *disk.Disk
	n       int
	v       Vault
	last    string   // what was settled on with OK, or what a crash left
	tried   []string // what was tried since
	written []string // the records that came behind the last text
	lasts   int      // how many of them must be there
}

// begin is a story of a new disk.
func begin(t *testing.T, size, n int, text string) *story {
	t.Helper()
	s := &story{d: formatted(t, size, n, text), n: n, last: text}
	s.open(t)
	return s
}

// open opens, and looks whether what the disk has is what it may have.
func (s *story) open(t *testing.T) (string, []string) {
	t.Helper()
	v, text, data, e := Open(s.d, s.n)
	if e != api.OK || !v.Stuck {
		t.Fatal(v, e)
	}
	kept := text == s.last && len(data) >= s.lasts && len(data) <= len(s.written) && slices.Equal(data, s.written[:len(data)])
	if !kept && (len(data) > 0 || !slices.Contains(s.tried, text)) {
		t.Fatalf("%q %q, not %q %q (%d of them must be there), nor of %q", text, data, s.last, s.written, s.lasts, s.tried)
	}
	s.v = v
	return text, data
}

// waits tells whether a write of a sector waits: if so, a byte that is turned in what lasts isn't read.
func waits(d *disk.Disk, i int) bool {
	before, _ := d.Read(i)
	d.Rot(i, 0, 1)
	after, _ := d.Read(i)
	d.Rot(i, 0, 1)
	return before == after
}

// asks is how many things a settling asks of the disk: a write for each part and a sync behind them. Only where the text that the vault has doesn't last, and the new one could be torn, there is a sync ahead, for P16.4.
func (s *story) asks(text string) int {
	n := parts(text) + 1
	if parts(text) > 1 && waits(s.d, s.v.Slot*s.n) {
		n++
	}
	return n
}

// settle settles, with its write or sync failing where told, and looks that it asked just what it should, and was told so.
func (s *story) settle(t *testing.T, text string, fails int) api.Errno {
	t.Helper()
	want, did, ops := api.OK, s.asks(text), s.d.Ops()
	if fails > 0 && fails <= did {
		want, did = api.ErrDisk, fails-1
	}
	s.d.Arm(fails)
	v, e := s.v.Settle(s.d, text)
	s.d.Arm(0)
	if e != want || s.d.Ops()-ops != did || v.Stuck != (e != api.OK) {
		t.Fatal(v, e, fails, s.d.Ops()-ops, "not", want, did)
	}
	if e == api.OK {
		s.last, s.tried, s.written, s.lasts = text, nil, nil, 0
	} else {
		s.tried = append(s.tried, text)
	}
	s.v = v
	return e
}

// record appends likewise.
func (s *story) record(t *testing.T, data string, fails int) api.Errno {
	t.Helper()
	stuck, full, next := s.v.Stuck, s.v.Log.Full(), s.v.Log.Next
	s.d.Arm(fails)
	v, e := s.v.Append(s.d, data)
	s.d.Arm(0)
	if v.Log.Next > next {
		s.written = append(s.written, data)
	}
	switch {
	case e == api.OK && !stuck && !full:
		s.lasts = len(s.written)
	case e == api.ErrState && stuck:
	case e == api.ErrFull && full && !stuck:
	case e == api.ErrDisk && fails > 0 && !stuck && !full:
	default:
		t.Fatal(v, e, fails)
	}
	s.v = v
	return e
}

// crash crashes, opens, and takes what is there for what must be there: nothing waits any more.
func (s *story) crash(t *testing.T, keep []bool) {
	t.Helper()
	s.d.Crash(keep)
	text, data := s.open(t)
	s.last, s.tried, s.written, s.lasts = text, nil, data, len(data)
}

// part is one part of what waits, by its number.
func part(number, waits int) []bool {
	var out []bool
	for i := range waits {
		out = append(out, number>>i&1 == 1)
	}
	return out
}

// text is a text of its own, in so many sectors.
func text(name string, sectors int) string {
	return name + strings.Repeat(".", 110*(sectors-1))
}

// turn is what one turn of TestCrashes has fail, and what it opens without a crash.
type turn struct {
	record, first, second, behind int
	anew, again                   bool
	parts                         [2]int
}

// turns goes over all of them.
func turns(yield func(turn) bool) {
	for k := range 3 * 4 * 5 * 3 * 2 * 2 * 2 * 2 {
		u := turn{}
		take := func(of int) int {
			n := k % of
			k /= of
			return n
		}
		u.record, u.first, u.second, u.behind = take(3), take(4), take(5), take(3)
		u.anew, u.again = take(2) == 1, take(2) == 1
		u.parts = [2]int{1 + take(2), 1 + take(2)}
		if !yield(u) {
			return
		}
	}
}

// play plays a turn, up to its crash.
func (u turn) play(t *testing.T) *story {
	t.Helper()
	s := begin(t, 7, 2, text("a", 2))
	s.settle(t, text("b", 2), 0)
	s.record(t, "r0", 0)
	s.record(t, "r1", u.record)
	s.settle(t, text("c", u.parts[0]), u.first)
	if u.anew {
		s.open(t)
	}
	s.settle(t, text("d", u.parts[1]), u.second)
	if u.again {
		s.open(t)
	}
	s.record(t, "r2", u.behind)
	return s
}

// P16.4: two texts and a record, each of which may fail at each write and sync, with the disk opened or not in between: behind every crash there is the last text settled on with OK, or one tried since, and the records that were appended with OK.
func TestCrashes(t *testing.T) {
	most := 0
	for u := range turns {
		s := u.play(t)
		waits := s.d.Waiting()
		most = max(most, waits)
		for number := range 1 << waits {
			if number > 0 {
				s = u.play(t)
			}
			s.crash(t, part(number, waits))
			s.settle(t, "e", 0)
			s.record(t, "r3", 0)
			s.crash(t, nil)
			if s.last != "e" || !slices.Equal(s.written, []string{"r3"}) {
				t.Fatal(u, s.last, s.written)
			}
		}
	}
	if most < 5 {
		t.Fatal("no more waited than", most)
	}
}

// tries goes over three settlings, each of one part or two, failing anywhere or not, with the disk opened behind it or not.
func tries(yield func([3]turn) bool) {
	for k := range 20 * 20 * 20 {
		var all [3]turn
		for i := range all {
			all[i] = turn{first: k % 5, anew: k/5%2 == 1, parts: [2]int{1 + k/10%2}}
			k /= 20
		}
		if !yield(all) {
			return
		}
	}
}

// P16.3, P16.4: three settlings behind one whose text lasts: each asks just what it should of the disk, and behind every crash there is what must be there.
func TestCrashesTried(t *testing.T) {
	for all := range tries {
		play := func() *story {
			s := begin(t, 5, 2, text("a", 2))
			s.settle(t, text("b", 2), 0)
			for i, u := range all {
				s.settle(t, text(strconv.Itoa(i), u.parts[0]), u.first)
				if u.anew {
					s.open(t)
				}
			}
			return s
		}
		s := play()
		n := s.d.Waiting()
		for number := range 1 << n {
			if number > 0 {
				s = play()
			}
			s.crash(t, part(number, n))
		}
	}
}

// step does something by chance.
func (s *story) step(t *testing.T, r *rand.Rand, name string) {
	t.Helper()
	fails := max(0, r.IntN(10)-4)
	switch r.IntN(9) {
	case 0:
		s.open(t)
	case 1: // it is looked at, and gone on with as it was
		v := s.v
		s.open(t)
		s.v = v
	case 2:
		var keep []bool
		for range r.IntN(8) {
			keep = append(keep, r.IntN(2) == 0)
		}
		s.crash(t, keep)
	case 3, 4, 5:
		s.settle(t, text(name, 1+r.IntN(s.n)), fails)
	default:
		s.record(t, name, fails)
	}
}

// P16.4: the same of long stories.
func TestCrashesOn(t *testing.T) {
	r := rand.New(rand.NewPCG(16, 4))
	for range 1500 {
		n := 1 + r.IntN(3)
		s := begin(t, 2*n+1+r.IntN(4), n, "a")
		for i := range 60 {
			s.step(t, r, strconv.Itoa(i))
		}
		s.crash(t, nil)
	}
}

// P16.3: where just records wait, and the text lasts, a settling asks no more than a write for each part and a sync behind them, and fails where one of these does: behind a settling that failed, or an Open, or both.
func TestSettleRecordsWait(t *testing.T) {
	for k := range 3 * 3 * 2 * 5 {
		sectors, first, opened, fails := 1+k%3, k/3%3, k/9%2 == 1, k/18
		s := begin(t, 9, 3, text("a", 3))
		s.settle(t, text("b", 2), 0)
		s.record(t, "r0", 2)
		s.record(t, "r1", 2)
		if first > 0 {
			s.settle(t, text("c", 3), first)
		}
		if opened || first == 0 {
			s.open(t)
		}
		if n := s.d.Waiting(); n != 2+max(0, first-1) || s.v.Slot != 1 || s.v.Log.Next != 2 {
			t.Fatal(n, s.v)
		}
		ops := s.d.Ops()
		want, did := api.OK, sectors+1
		if fails > 0 && fails <= did {
			want, did = api.ErrDisk, fails-1
		}
		if e := s.settle(t, text("d", sectors), fails); e != want || s.d.Ops()-ops != did {
			t.Fatal(sectors, first, opened, fails, e, s.d.Ops()-ops)
		}
		if did >= sectors { // all parts are written: the text is read, whether it lasts or not
			s.open(t)
			if s.v.Slot != 0 || s.v.Log.Next != 0 {
				t.Fatal(s.v)
			}
		}
	}
}

// P16.4: where the text doesn't last, as a Format's or a Settle's sync failed and the disk was opened behind it, a crash within the next settling leaves it, or the new one.
func TestSettleTextWaits(t *testing.T) {
	for k := range 2 * 3 * 6 * 16 {
		format, sectors, fails, number := k%2 == 1, 1+k/2%3, k/6%6, k/36
		d := fresh(t, 9)
		if !format {
			d = formatted(t, 9, 3, text("a", 3))
			settled(t, d, opened(t, d), 2, text("b", 2))
			d.Arm(4)
			if v, e := opened(t, d).Settle(d, text("c", 3)); e != api.ErrDisk || !v.Stuck {
				t.Fatal(v, e)
			}
		} else if d.Arm(4); Format(d, 3, text("c", 3)) != api.ErrDisk {
			t.Fatal("a Format didn't fail")
		}
		v := opened(t, d)
		if d.Waiting() != 3 {
			t.Fatal(d.Waiting())
		}
		d.Arm(fails)
		_, e := v.Settle(d, text("d", sectors))
		d.Arm(0)
		left := []string{text("d", sectors)}
		if e != api.OK {
			left = append(left, text("c", 3))
		}
		if waits(d, 3*v.Slot) { // nothing was written yet that could be torn
			left = append(left, text("b", 2))
			if format {
				continue // no text was ever there that lasts
			}
		}
		d.Crash(part(number, d.Waiting()))
		if _, is, _, e := Open(d, 3); e != api.OK || !slices.Contains(left, is) {
			t.Fatal(k, is, e)
		}
	}
}

// P16.3, P16.4: where the text doesn't last, just a text that one sector can't hold is synced ahead of; never where the vault isn't stuck, whatever waits beside.
func TestSettleEdges(t *testing.T) {
	for _, length := range []int{0, 1, 105, 106, 107, 110, 216, 217} {
		text := strings.Repeat("t", length)
		d := fresh(t, 9)
		d.Arm(2)
		if e := Format(d, 3, "a"); e != api.ErrDisk {
			t.Fatal(e)
		}
		ops, want := d.Ops(), parts(text)+1
		if length > 106 {
			want++
		}
		v := settled(t, d, opened(t, d), 2, text)
		if d.Ops()-ops != want {
			t.Fatal(length, d.Ops()-ops)
		}
		put(t, d, 8, blank)
		ops = d.Ops()
		settled(t, d, v, 3, text)
		if d.Ops()-ops != parts(text)+1 {
			t.Fatal(length, d.Ops()-ops)
		}
	}
}

// opened is the vault of a disk of two slots of 3.
func opened(t *testing.T, d *disk.Disk) Vault {
	t.Helper()
	v, _, _, e := Open(d, 3)
	if e != api.OK {
		t.Fatal(e)
	}
	return v
}

// P16.4: behind each crash within it, a Settle has left the old text or the new one; where the crash keeps nothing, the old one, where it keeps all that a whole text has, the new one.
func TestCrashKeeps(t *testing.T) {
	for fails := 1; fails <= 4; fails++ {
		for number := range 1 << 3 {
			s := begin(t, 8, 3, "old")
			s.settle(t, text("old", 2), 0)
			s.record(t, "r", 0)
			s.settle(t, text("new", 3), fails)
			s.crash(t, part(number, 3))
			young := fails == 4 && number == 7
			if young != (s.last == text("new", 3)) || young != (len(s.written) == 0) {
				t.Fatal(fails, number, s.last, s.written)
			}
		}
	}
}

// P16.1, P16.2: behind a crash within a Format the disk is blank, or has its text, or neither slot is whole, which is ErrRot.
func TestCrashFormat(t *testing.T) {
	for fails := 1; fails <= 4; fails++ {
		for number := range 1 << 3 {
			d := fresh(t, 7)
			d.Arm(fails)
			if e := Format(d, 3, text("a", 3)); e != api.ErrDisk {
				t.Fatal(e)
			}
			kept := number & (1<<d.Waiting() - 1)
			d.Crash(part(number, 3))
			want := api.ErrRot
			switch kept {
			case 0:
				want = api.ErrNone
			case 7:
				want = api.OK
			}
			if _, s, _, e := Open(d, 3); e != want || e == api.OK && s != text("a", 3) {
				t.Fatal(fails, number, s, e)
			}
		}
	}
}

// P16.4: each byte of each written sector, turned in whatever way, is ErrRot; turned back, the disk opens as before.
func TestTurned(t *testing.T) {
	s := begin(t, 11, 3, text("a", 3))
	s.settle(t, text("b", 2), 0)
	s.record(t, "r0", 0)
	s.record(t, "", 0)
	s.record(t, strings.Repeat("r", 110), 0)
	written := 0
	for i := range s.d.Size() {
		if was, _ := s.d.Read(i); was == blank {
			continue
		}
		written++
		for at := range api.Sector {
			for _, by := range []byte{1, 2, 4, 8, 16, 32, 64, 128, 255, byte(1 + (i*31+at)%255)} {
				s.d.Rot(i, at, by)
				fails(t, s.d, s.n, api.ErrRot)
				s.d.Rot(i, at, by)
			}
		}
		s.crash(t, nil)
	}
	if written != 8 || s.last != text("b", 2) || len(s.written) != 3 {
		t.Fatal(written, s.last, s.written)
	}
}
