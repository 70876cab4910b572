package disk

import (
	"math"
	"math/rand/v2"
	"slices"
	"strings"
	"testing"

	"chaff/api"
)

// The tests hold disks against a book: all that was ever written, in order, with what became of it. The book goes through it from the beginning at each look, which the program itself does not do.

// entry is a write, or a turn of bits, as it came.
type entry struct {
	at    int
	text  string // of a write
	place int    // of a turn
	by    byte
	turn  bool
	waits bool
}

type book struct {
	size    int
	entries []entry
	armed   int
	ops     int
}

// fires counts down to the write or sync that fails.
func (b *book) fires() bool {
	if b.armed > 0 {
		b.armed--
		return b.armed == 0
	}
	return false
}

func (b *book) write(i int, s string) api.Errno {
	if i < 0 || i >= b.size {
		return api.ErrRange
	}
	if len(s) != 128 {
		return api.ErrForm
	}
	if b.fires() {
		return api.ErrDisk
	}
	b.entries = append(b.entries, entry{at: i, text: s, waits: true})
	b.ops++
	return api.OK
}

func (b *book) sync() api.Errno {
	if b.fires() {
		return api.ErrDisk
	}
	b.end(func(int) bool { return true })
	b.ops++
	return api.OK
}

func (b *book) crash(keep []bool) {
	b.end(func(j int) bool { return j < len(keep) && keep[j] })
}

// end has what is kept last, behind all that lasted, and drops the rest.
func (b *book) end(kept func(j int) bool) {
	var lasts, then []entry
	j := 0
	for _, x := range b.entries {
		if !x.waits {
			lasts = append(lasts, x)
			continue
		}
		if kept(j) {
			x.waits = false
			then = append(then, x)
		}
		j++
	}
	b.entries = append(lasts, then...)
}

func (b *book) rot(i, at int, by byte) {
	if i >= 0 && i < b.size && at >= 0 && at < 128 {
		b.entries = append(b.entries, entry{at: i, place: at, by: by, turn: true})
	}
}

func (b *book) waiting() int {
	n := 0
	for _, x := range b.entries {
		if x.waits {
			n++
		}
	}
	return n
}

// read is what is read: if a write of the sector waits, the last of these, else what lasts, turned as it was.
func (b *book) read(i int) string {
	text := []byte(strings.Repeat("\x00", 128))
	waits := false
	for _, x := range b.entries {
		switch {
		case x.at != i:
		case !x.turn:
			text = []byte(x.text)
			waits = x.waits
		case !waits:
			text[x.place] ^= x.by
		}
	}
	return string(text)
}

// same looks whether a disk answers what the book does.
func same(t *testing.T, d *Disk, b *book) {
	t.Helper()
	if d.Size() != b.size || d.Waiting() != b.waiting() || d.Ops() != b.ops {
		t.Fatal("Size", d.Size(), "Waiting", d.Waiting(), "Ops", d.Ops(), "not", b.size, b.waiting(), b.ops)
	}
	for i := range b.size {
		reads(t, d, i, b.read(i))
	}
}

func reads(t *testing.T, d *Disk, i int, want string) {
	t.Helper()
	if s, e := d.Read(i); s != want || e != api.OK {
		t.Fatalf("sector %d: %q %v, not %q", i, s, e, want)
	}
}

func fresh(t *testing.T, n int) *Disk {
	t.Helper()
	d, e := New(n)
	if e != api.OK || d == nil {
		t.Fatal(n, d, e)
	}
	return d
}

// full is a sector's text of one byte.
func full(c byte) string { return strings.Repeat(string([]byte{c}), 128) }

// put writes, and looks that it was right.
func put(t *testing.T, d *Disk, i int, s string) {
	t.Helper()
	if e := d.Write(i, s); e != api.OK {
		t.Fatal(i, e)
	}
}

func sync(t *testing.T, d *Disk) {
	t.Helper()
	if e := d.Sync(); e != api.OK {
		t.Fatal(e)
	}
}

// any128 is a sector's text of any bytes.
func any128(r *rand.Rand) string {
	out := make([]byte, 128)
	for i := range out {
		out[i] = byte(r.Uint32())
	}
	return string(out)
}

func TestExample(t *testing.T) {
	d := fresh(t, 1)
	put(t, d, 0, full('a'))
	d.Crash(nil)
	reads(t, d, 0, full(0))
}

// P12.1: sizes from 1 to 4096, all of them 0 at first; no disk beside an error.
func TestNew(t *testing.T) {
	for _, n := range []int{1, 2, 3, 4095, api.MaxSectors} {
		d := fresh(t, n)
		same(t, d, &book{size: n})
		if d.Sync() != api.OK || d.Ops() != 1 {
			t.Fatal(n)
		}
	}
	for _, n := range []int{0, -1, api.MaxSectors + 1, math.MinInt, math.MaxInt, 1<<32 + 1} {
		if d, e := New(n); d != nil || e != api.ErrRange {
			t.Fatal(n, d, e)
		}
	}
}

// P12.1: what is read is what was written last, whether it lasts or not.
func TestReadWrite(t *testing.T) {
	d := fresh(t, 3)
	put(t, d, 0, full('a'))
	reads(t, d, 0, full('a'))
	put(t, d, 0, full('b'))
	put(t, d, 2, full('c'))
	reads(t, d, 0, full('b'))
	reads(t, d, 1, full(0))
	reads(t, d, 2, full('c'))
	sync(t, d)
	reads(t, d, 0, full('b'))
	put(t, d, 0, full(0))
	reads(t, d, 0, full(0))
	sync(t, d)
	reads(t, d, 0, full(0))
	reads(t, d, 2, full('c'))
}

// P12.1: wrong sectors, wrong texts, and which error comes first; nothing is done.
func TestWrong(t *testing.T) {
	d := fresh(t, 2)
	put(t, d, 1, full('a'))
	sync(t, d)
	put(t, d, 0, full('b'))
	b := &book{size: 2, entries: []entry{{at: 1, text: full('a')}, {at: 0, text: full('b'), waits: true}}, ops: 3}
	right, wrong := full('x'), []string{"", "x", full('x')[1:], full('x') + "x", full('x') + full('x')}
	for _, i := range []int{-1, 2, 3, math.MinInt, math.MaxInt, 1 << 32} {
		if s, e := d.Read(i); s != "" || e != api.ErrRange {
			t.Fatal(i, s, e)
		}
		for _, s := range append(wrong, right) {
			if e := d.Write(i, s); e != api.ErrRange {
				t.Fatal(i, len(s), e)
			}
		}
	}
	for _, s := range wrong {
		if e := d.Write(0, s); e != api.ErrForm {
			t.Fatal(len(s), e)
		}
	}
	same(t, d, b)
}

// P12.1: on an armed disk the n-th Write or Sync does nothing but fail, those ahead of it and behind it are done.
func TestArmed(t *testing.T) {
	for n := 1; n <= 6; n++ {
		d, b := fresh(t, 2), &book{size: 2, armed: n}
		d.Arm(n)
		for k := 1; k <= 8; k++ {
			var e, want api.Errno
			if k%3 == 0 {
				e, want = d.Sync(), b.sync()
			} else {
				e, want = d.Write(k%2, full(byte(k))), b.write(k%2, full(byte(k)))
			}
			if e != want || (e == api.ErrDisk) != (k == n) || (e == api.OK) != (k != n) {
				t.Fatal(n, k, e, want)
			}
			same(t, d, b)
		}
	}
}

// P12.2: only a Write that has a right sector and text counts, and reads, crashes, turns and looks don't.
func TestArmCounts(t *testing.T) {
	d := fresh(t, 2)
	d.Arm(2)
	d.Write(2, full('a'))
	d.Write(-1, full('a'))
	d.Write(0, "a")
	d.Read(0)
	d.Read(9)
	d.Crash([]bool{true})
	d.Rot(0, 0, 1)
	d.Size()
	d.Waiting()
	d.Ops()
	put(t, d, 0, full('a'))
	if e := d.Write(2, full('a')); e != api.ErrRange {
		t.Fatal("a wrong sector goes ahead of the failure", e)
	}
	if e := d.Write(0, ""); e != api.ErrForm {
		t.Fatal("a wrong text goes ahead of the failure", e)
	}
	if e := d.Write(1, full('b')); e != api.ErrDisk {
		t.Fatal(e)
	}
	if d.Waiting() != 1 || d.Ops() != 1 {
		t.Fatal(d.Waiting(), d.Ops())
	}
	put(t, d, 1, full('c'))
	sync(t, d)
}

// P12.2: at 0 or below nothing fails, and what was armed before doesn't any more; armed anew counts anew.
func TestArmedBy(t *testing.T) {
	for _, n := range []int{0, -1, -5, math.MinInt} {
		d := fresh(t, 1)
		d.Arm(1)
		d.Arm(n)
		for range 5 {
			put(t, d, 0, full('a'))
			sync(t, d)
		}
	}
	d := fresh(t, 1)
	d.Arm(2)
	sync(t, d)
	d.Arm(2)
	sync(t, d)
	if e := d.Sync(); e != api.ErrDisk {
		t.Fatal(e)
	}
	d.Arm(math.MaxInt)
	for range 5 {
		put(t, d, 0, full('a'))
		sync(t, d)
	}
}

// P12.1, P12.2: a sync that fails leaves what waits waiting.
func TestSyncFails(t *testing.T) {
	d := fresh(t, 2)
	put(t, d, 0, full('a'))
	put(t, d, 1, full('b'))
	d.Arm(1)
	if e := d.Sync(); e != api.ErrDisk || d.Waiting() != 2 || d.Ops() != 2 {
		t.Fatal(e, d.Waiting(), d.Ops())
	}
	d.Crash([]bool{false, true})
	reads(t, d, 0, full(0))
	reads(t, d, 1, full('b'))
}

// P12.2: of the writes that wait those that keep tells are kept, in order, and no others; nothing waits then.
func TestCrash(t *testing.T) {
	cases := []struct {
		keep []bool
		want string
	}{
		{nil, "ab"},
		{[]bool{}, "ab"},
		{[]bool{false, false, false, false}, "ab"},
		{[]bool{true}, "cb"},
		{[]bool{false, true}, "ad"},
		{[]bool{false, false, true}, "eb"},
		{[]bool{false, false, false, true}, "af"},
		{[]bool{true, false, true}, "eb"},
		{[]bool{true, true}, "cd"},
		{[]bool{true, true, true, true}, "ef"},
		{[]bool{true, true, true, true, true, true}, "ef"},
		{[]bool{false, false, false, false, true}, "ab"},
	}
	for _, c := range cases {
		d := fresh(t, 2)
		put(t, d, 0, full('a'))
		put(t, d, 1, full('b'))
		sync(t, d)
		put(t, d, 0, full('c'))
		put(t, d, 1, full('d'))
		put(t, d, 0, full('e'))
		put(t, d, 1, full('f'))
		was := slices.Clone(c.keep)
		d.Crash(c.keep)
		if !slices.Equal(was, c.keep) {
			t.Fatal("keep was changed", was, c.keep)
		}
		if d.Waiting() != 0 || d.Ops() != 7 {
			t.Fatal(c.keep, d.Waiting(), d.Ops())
		}
		reads(t, d, 0, full(c.want[0]))
		reads(t, d, 1, full(c.want[1]))
		d.Crash([]bool{true, true, true, true})
		sync(t, d)
		reads(t, d, 0, full(c.want[0]))
		reads(t, d, 1, full(c.want[1]))
	}
}

// P12.2: bits are turned in what lasts; what waits is read, and synced, as it was written.
func TestRot(t *testing.T) {
	d := fresh(t, 2)
	turned := func(c byte, at int, by byte) string {
		out := []byte(full(c))
		out[at] ^= by
		return string(out)
	}
	d.Rot(1, 0, 255)
	reads(t, d, 0, full(0))
	reads(t, d, 1, turned(0, 0, 255))
	d.Rot(1, 0, 255)
	reads(t, d, 1, full(0))
	put(t, d, 0, full('a'))
	sync(t, d)
	d.Rot(0, 127, 3)
	reads(t, d, 0, turned('a', 127, 3))
	d.Rot(0, 127, 0)
	reads(t, d, 0, turned('a', 127, 3))

	put(t, d, 0, full('b'))
	put(t, d, 1, full('c'))
	d.Rot(0, 127, 4)
	d.Rot(1, 64, 128)
	reads(t, d, 0, full('b'))
	reads(t, d, 1, full('c'))
	d.Crash([]bool{false, true})
	reads(t, d, 0, turned('a', 127, 3^4))
	reads(t, d, 1, full('c'))
	d.Rot(1, 64, 128)
	reads(t, d, 1, turned('c', 64, 128))

	put(t, d, 0, full('d'))
	d.Rot(0, 1, 1)
	sync(t, d)
	reads(t, d, 0, full('d'))
	d.Rot(0, 1, 1)
	reads(t, d, 0, turned('d', 1, 1))
	if d.Waiting() != 0 || d.Ops() != 6 {
		t.Fatal(d.Waiting(), d.Ops())
	}
}

// P12.2: where there is no such sector or byte nothing is turned.
func TestRotWrong(t *testing.T) {
	d, b := fresh(t, 3), &book{size: 3}
	for _, far := range []int{-1, 128, 129, 256, 1 << 32, math.MinInt, math.MaxInt} {
		for i := range 3 {
			d.Rot(i, far, 255)
		}
		d.Rot(far, 0, 255)
		d.Rot(far, far, 255)
	}
	d.Rot(3, 0, 255)
	same(t, d, b)
	for i := range 3 {
		for at := range 128 {
			d.Rot(i, at, byte(at+i))
			b.rot(i, at, byte(at+i))
		}
	}
	same(t, d, b)
}

// P12.1, P12.2: any calls one behind the other come to what the book tells.
func TestAny(t *testing.T) {
	r := rand.New(rand.NewPCG(12, 1))
	for range 200 {
		size := 1 + r.IntN(5)
		d, b := fresh(t, size), &book{size: size}
		for range 60 {
			i := r.IntN(size+2) - 1
			switch r.IntN(9) {
			case 0, 1, 2, 3:
				s := any128(r)
				if r.IntN(12) == 0 {
					s = s[1:]
				}
				if e, want := d.Write(i, s), b.write(i, s); e != want {
					t.Fatal("Write", e, want)
				}
			case 4:
				if e, want := d.Sync(), b.sync(); e != want {
					t.Fatal("Sync", e, want)
				}
			case 5:
				keep := make([]bool, r.IntN(8))
				for j := range keep {
					keep[j] = r.IntN(2) == 0
				}
				d.Crash(keep)
				b.crash(keep)
			case 6:
				b.armed = r.IntN(8) - 2
				d.Arm(b.armed)
			default:
				at, by := r.IntN(132)-2, byte(r.Uint32())
				d.Rot(i, at, by)
				b.rot(i, at, by)
			}
			same(t, d, b)
		}
	}
}

// P12.3: what was synced outlives every crash, and of what waits any part may: each part is tried.
func TestOutlives(t *testing.T) {
	const waits = 8
	for part := range 1 << waits {
		d := fresh(t, waits+1)
		for i := range waits + 1 {
			put(t, d, i, full(byte('a'+i)))
		}
		sync(t, d)
		for i := range waits {
			put(t, d, i, full(byte('A'+i)))
		}
		keep := make([]bool, waits)
		for i := range keep {
			keep[i] = part>>i&1 == 1
		}
		d.Crash(keep)
		for i := range waits {
			want := byte('a' + i)
			if keep[i] {
				want = byte('A' + i)
			}
			reads(t, d, i, full(want))
		}
		reads(t, d, waits, full('a'+waits))
		d.Crash(nil)
		reads(t, d, waits, full('a'+waits))
	}
}

// P12.3: many writes, of all sectors of the largest disk and more than once, last when they are synced, and are lost when not.
func TestMany(t *testing.T) {
	d := fresh(t, api.MaxSectors)
	for turn := range 3 {
		for i := range api.MaxSectors {
			put(t, d, i, full(byte(i+turn)))
		}
	}
	if d.Waiting() != 3*api.MaxSectors {
		t.Fatal(d.Waiting())
	}
	sync(t, d)
	for i := range api.MaxSectors {
		put(t, d, i, full(255))
	}
	d.Crash(nil)
	for i := range api.MaxSectors {
		reads(t, d, i, full(byte(i+2)))
	}
	if d.Ops() != 4*api.MaxSectors+1 {
		t.Fatal(d.Ops())
	}
}

// R5: what is done to one disk is not seen on another.
func TestApart(t *testing.T) {
	a, b := fresh(t, 2), fresh(t, 2)
	put(t, a, 0, full('a'))
	a.Arm(1)
	a.Rot(1, 0, 1)
	same(t, b, &book{size: 2})
	put(t, b, 0, full('b'))
	reads(t, a, 0, full('a'))
	if e := a.Sync(); e != api.ErrDisk {
		t.Fatal(e)
	}
}
