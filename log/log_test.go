package log

import (
	"encoding/binary"
	"hash/crc32"
	"math"
	"math/rand/v2"
	"slices"
	"strings"
	"testing"

	"chaff/api"
	"chaff/disk"
)

// The tests lay sectors by layer 13's chapter with the library's numbers and CRC, and tell a log's records from a list of what was laid, not from sectors.

// laid is a record's sector.
func laid(kind uint8, gen uint64, index uint32, data string) string {
	out := make([]byte, 128)
	out[0] = kind
	binary.BigEndian.PutUint64(out[1:], gen)
	binary.BigEndian.PutUint32(out[9:], index)
	out[13] = byte(len(data))
	copy(out[14:124], data)
	binary.LittleEndian.PutUint32(out[124:], crc32.ChecksumIEEE(out[:124]))
	return string(out)
}

var blank = strings.Repeat("\x00", 128)

func fresh(t *testing.T, n int) *disk.Disk {
	t.Helper()
	d, e := disk.New(n)
	if e != api.OK {
		t.Fatal(e)
	}
	return d
}

// put writes a sector.
func put(t *testing.T, d *disk.Disk, i int, s string) {
	t.Helper()
	if e := d.Write(i, s); e != api.OK {
		t.Fatal(i, e)
	}
}

// begun is a log without records, replayed off the disk.
func begun(t *testing.T, d *disk.Disk, from, room int, gen uint64) Log {
	t.Helper()
	replays(t, d, from, room, gen, nil)
	return Log{From: from, Room: room, Gen: gen}
}

// replays looks whether a log has just these records.
func replays(t *testing.T, d *disk.Disk, from, room int, gen uint64, want []string) {
	t.Helper()
	l, got, e := Replay(d, from, room, gen)
	if e != api.OK || l != (Log{From: from, Room: room, Gen: gen, Next: len(want)}) || !slices.Equal(got, want) {
		t.Fatalf("%v %q %v, not %q", l, got, e, want)
	}
}

// reads looks what stands in a sector.
func reads(t *testing.T, d *disk.Disk, i int, want string) {
	t.Helper()
	if s, e := d.Read(i); s != want || e != api.OK {
		t.Fatalf("sector %d: %q %v, not %q", i, s, e, want)
	}
}

// appended appends, and looks that it was right.
func appended(t *testing.T, d *disk.Disk, l Log, data string) Log {
	t.Helper()
	m, e := l.Append(d, data)
	l.Next++
	if e != api.OK || m != l {
		t.Fatal(m, e)
	}
	return m
}

func TestExample(t *testing.T) {
	d := fresh(t, 3)
	l := begun(t, d, 0, 3, 1)
	l = appended(t, d, l, "a")
	appended(t, d, l, "b")
	replays(t, d, 0, 3, 1, []string{"a", "b"})
}

// wrong is where no log of a disk of 4 sectors lies.
var wrong = []Log{
	{From: 0, Room: 0}, {From: 0, Room: -1}, {From: 0, Room: 5}, {From: 0, Room: math.MinInt}, {From: 0, Room: math.MaxInt},
	{From: -1, Room: 1}, {From: -1, Room: 5}, {From: -4, Room: 3}, {From: math.MinInt, Room: 1}, {From: math.MinInt, Room: math.MaxInt}, {From: -1, Room: math.MaxInt},
	{From: 1, Room: 4}, {From: 3, Room: 2}, {From: 4, Room: 1}, {From: 5, Room: 1}, {From: 4, Room: 0}, {From: 3, Room: 0}, {From: 2, Room: -1},
	{From: 5, Room: -1}, {From: math.MaxInt, Room: 1}, {From: math.MaxInt, Room: math.MaxInt}, {From: 1, Room: math.MaxInt}, {From: math.MaxInt, Room: math.MinInt},
	{From: 1 << 32, Room: 1}, {From: 0, Room: 1<<32 + 1},
}

// P14.1: a log that isn't wholly the disk's is ErrRange, and nothing stands beside that.
func TestReplayRange(t *testing.T) {
	d := fresh(t, 4)
	for i := range 4 {
		put(t, d, i, laid(1, 0, uint32(i), "x"))
	}
	for _, w := range wrong {
		if l, s, e := Replay(d, w.From, w.Room, 0); l != (Log{}) || len(s) != 0 || e != api.ErrRange {
			t.Fatal(w, l, s, e)
		}
	}
	if l, s, e := Replay(new(disk.Disk), 0, 1, 0); l != (Log{}) || len(s) != 0 || e != api.ErrRange {
		t.Fatal(l, s, e)
	}
	for from := range 4 {
		for room := 1; from+room <= 4; room++ {
			if _, _, e := Replay(d, from, room, 0); e != api.OK {
				t.Fatal(from, room, e)
			}
		}
	}
}

// P14.1: the records up to the first sector that isn't the next one, wherever that is, and whatever stands behind it.
func TestReplayEnds(t *testing.T) {
	turned := []byte(laid(1, 7, 9, "x"))
	turned[20] ^= 1
	others := func(i uint32) []string {
		out := []string{
			blank,
			laid(0, 7, i, "x"), laid(2, 7, i, "x"), laid(3, 7, i, "x"), laid(255, 7, i, "x"), laid(129, 7, i, "x"),
			laid(1, 6, i, "x"), laid(1, 8, i, "x"), laid(1, 0, i, "x"), laid(1, 7<<32, i, "x"), laid(1, 7+1<<32, i, "x"), laid(1, math.MaxUint64, i, "x"),
			laid(1, 7, i+1, "x"), laid(1, 7, i-1, "x"), laid(1, 7, i+1<<8, "x"), laid(1, 7, i+1<<16, "x"), laid(1, 7, i+1<<31, "x"), laid(1, 7, math.MaxUint32-i, "x"),
			string(turned), strings.Repeat("\xff", 128),
		}
		// Its sum is right, but no record has 111 bytes.
		long := []byte(laid(1, 7, i, "x"))
		long[13] = 111
		binary.LittleEndian.PutUint32(long[124:], crc32.ChecksumIEEE(long[:124]))
		return append(out, string(long))
	}
	for end := range uint32(5) {
		for _, other := range others(end) {
			d := fresh(t, 7)
			var want []string
			for i := range uint32(5) {
				data := strings.Repeat("d", int(i))
				put(t, d, 1+int(i), laid(1, 7, i, data))
				if i < end {
					want = append(want, data)
				}
			}
			put(t, d, 1+int(end), other)
			replays(t, d, 1, 5, 7, want)
		}
	}
}

// P14.1: sectors ahead of the log and behind it play no part, and its room is an end.
func TestReplayRoom(t *testing.T) {
	d := fresh(t, 8)
	all := []string{"", "a", "\x00", "bc", strings.Repeat("\xff", 110), "e", "f", "g"}
	for i, data := range all {
		put(t, d, i, laid(1, math.MaxUint64, uint32(i), data))
	}
	for room := 1; room <= 8; room++ {
		replays(t, d, 0, room, math.MaxUint64, all[:room])
		replays(t, d, 0, room, math.MaxUint64-1, nil)
		if room < 8 {
			replays(t, d, 1, room, math.MaxUint64, nil) // the sector there has the Index 1
		}
	}
	put(t, d, 5, laid(1, 3, 0, "x"))
	put(t, d, 6, laid(1, 3, 1, "y"))
	put(t, d, 7, laid(1, 3, 2, "z"))
	replays(t, d, 5, 3, 3, []string{"x", "y", "z"})
	replays(t, d, 5, 2, 3, []string{"x", "y"})
	replays(t, d, 0, 8, math.MaxUint64, all[:5])
	d = fresh(t, api.MaxSectors)
	for i := range api.MaxSectors {
		put(t, d, i, laid(1, 0, uint32(i), "x"))
	}
	replays(t, d, 0, api.MaxSectors, 0, strings.Split(strings.Repeat("x", api.MaxSectors), ""))
	replays(t, d, api.MaxSectors-1, 1, 0, nil)
}

// P14.1: a Replay only reads.
func TestReplayReads(t *testing.T) {
	d := fresh(t, 3)
	put(t, d, 0, laid(1, 1, 0, "a"))
	put(t, d, 1, blank)
	d.Arm(1)
	replays(t, d, 0, 3, 1, []string{"a"})
	if d.Waiting() != 2 || d.Ops() != 2 {
		t.Fatal(d.Waiting(), d.Ops())
	}
	if d.Write(0, blank) != api.ErrDisk {
		t.Fatal("a write or a sync was made")
	}
}

// P14.2: what an Append writes: one sector, synced, with all else as it was.
func TestAppend(t *testing.T) {
	r := rand.New(rand.NewPCG(14, 1))
	for range 300 {
		size := 1 + r.IntN(9)
		from := r.IntN(size)
		room := 1 + r.IntN(size-from)
		gen := r.Uint64() >> r.IntN(64)
		d := fresh(t, size)
		want := make([]string, size)
		for i := range want {
			want[i] = laid(1, gen, uint32(r.IntN(3)), "old")
			put(t, d, i, want[i])
		}
		l := Log{From: from, Room: room, Gen: gen}
		for i := range room {
			data := strings.Repeat(string([]byte{byte(r.Uint32())}), r.IntN(111))
			l = appended(t, d, l, data)
			want[from+i] = laid(1, gen, uint32(i), data)
			if d.Waiting() != 0 || d.Ops() != size+2*(i+1) {
				t.Fatal(d.Waiting(), d.Ops())
			}
			for j, s := range want {
				reads(t, d, j, s)
			}
		}
		if !l.Full() {
			t.Fatal(l)
		}
	}
}

// P14.2: Data of every length up to 110 bytes is replayed as it was.
func TestAppendLengths(t *testing.T) {
	d := fresh(t, 111)
	l := begun(t, d, 0, 111, 1)
	var all []string
	for n := range 111 {
		all = append(all, strings.Repeat("\x00", n/2)+strings.Repeat("y", n-n/2))
		l = appended(t, d, l, all[n])
	}
	replays(t, d, 0, 111, 1, all)
}

// refuses looks whether an Append answers an error, with the log as it was, and does nothing.
func refuses(t *testing.T, d *disk.Disk, l Log, data string, want api.Errno) {
	t.Helper()
	ops, waits := d.Ops(), d.Waiting()
	if m, e := l.Append(d, data); m != l || e != want {
		t.Fatal(l, len(data), m, e, "not", want)
	}
	if d.Ops() != ops || d.Waiting() != waits {
		t.Fatal("something was done")
	}
}

// P14.2: of several errors the first; the log is as it was, and the disk, too.
func TestAppendWrong(t *testing.T) {
	d := fresh(t, 4)
	long := strings.Repeat("x", 111)
	for _, w := range wrong {
		for _, next := range []int{0, 1, -1, w.Room, w.Room - 1, math.MaxInt, math.MinInt} {
			w.Gen, w.Next = 5, next
			refuses(t, d, w, "x", api.ErrRange)
			refuses(t, d, w, long, api.ErrRange)
		}
	}
	for _, next := range []int{-1, -2, 3, 4, math.MinInt, math.MaxInt, 1 << 32, -1 << 32} {
		refuses(t, d, Log{From: 1, Room: 2, Gen: 5, Next: next}, "x", api.ErrRange)
		refuses(t, d, Log{From: 1, Room: 2, Gen: 5, Next: next}, long, api.ErrRange)
	}
	refuses(t, d, Log{From: 1, Room: 2, Gen: 5, Next: 2}, "", api.ErrFull)
	refuses(t, d, Log{From: 1, Room: 2, Gen: 5, Next: 2}, long, api.ErrFull)
	refuses(t, d, Log{From: 0, Room: 4, Gen: 5, Next: 4}, long, api.ErrFull)
	for _, n := range []int{111, 112, 128, 255, 256, 257, 366, 1 << 16} {
		refuses(t, d, Log{From: 1, Room: 2, Gen: 5}, strings.Repeat("x", n), api.ErrLong)
		refuses(t, d, Log{From: 1, Room: 2, Gen: 5, Next: 1}, strings.Repeat("\x00", n), api.ErrLong)
	}
	refuses(t, d, Log{}, "x", api.ErrRange)
	refuses(t, new(disk.Disk), Log{Room: 1}, "x", api.ErrRange)
	// None of these counted down to the failure that lies ahead.
	d.Arm(1)
	refuses(t, d, Log{Room: 1, Next: 1}, "x", api.ErrFull)
	refuses(t, d, Log{Room: 1}, long, api.ErrLong)
	refuses(t, d, Log{Room: 5}, "x", api.ErrRange)
	refuses(t, d, Log{Room: 1}, "x", api.ErrDisk)
	appended(t, d, Log{Room: 1}, "x")
}

// P14.2: a write that fails leaves the log as it was, a sync that fails has it count the record, which waits.
func TestAppendFails(t *testing.T) {
	d := fresh(t, 3)
	l := appended(t, d, begun(t, d, 0, 3, 4), "a")
	d.Arm(1)
	refuses(t, d, l, "b", api.ErrDisk)
	replays(t, d, 0, 3, 4, []string{"a"})
	d.Arm(2)
	m, e := l.Append(d, "b")
	if e != api.ErrDisk || m != (Log{Room: 3, Gen: 4, Next: 2}) || d.Waiting() != 1 {
		t.Fatal(m, e, d.Waiting())
	}
	replays(t, d, 0, 3, 4, []string{"a", "b"})
	appended(t, d, m, "c") // its sync has both last
	d.Crash(nil)
	replays(t, d, 0, 3, 4, []string{"a", "b", "c"})
	// The last one fails likewise: then the log is full.
	d = fresh(t, 2)
	d.Arm(2)
	m, e = Log{From: 1, Room: 1}.Append(d, "z")
	if e != api.ErrDisk || m != (Log{From: 1, Room: 1, Next: 1}) || !m.Full() {
		t.Fatal(m, e)
	}
	refuses(t, d, m, "z", api.ErrFull)
}

// P14.2: Full is whether Next is Room, or more, of any log.
func TestFull(t *testing.T) {
	ends := []int{math.MinInt, math.MinInt + 1, -2, -1, 0, 1, 2, 4096, math.MaxInt - 1, math.MaxInt}
	for _, room := range ends {
		for _, next := range ends {
			for _, l := range []Log{{Room: room, Next: next}, {From: 3, Room: room, Gen: 2, Next: next}} {
				if l.Full() != (next >= room) {
					t.Fatal(l)
				}
			}
		}
	}
}

// story is what came of some Appends: how many of the records must last, and all that were written.
type story struct {
	lasts   int
	written []string
}

// told appends one by one, with the write (1) or the sync (2) failing where told.
func told(t *testing.T, d *disk.Disk, l Log, fails []int) story {
	t.Helper()
	var s story
	for i, f := range fails {
		data := strings.Repeat("r", i)
		d.Arm(f)
		m, e := l.Append(d, data)
		if (e == api.OK) != (f == 0) || e != api.OK && e != api.ErrDisk {
			t.Fatal(fails, i, e)
		}
		if f != 1 {
			s.written = append(s.written, data)
		}
		if e == api.OK {
			s.lasts = len(s.written)
		}
		if m.Next != len(s.written) {
			t.Fatal(fails, i, m)
		}
		l = m
	}
	d.Arm(0)
	return s
}

// P14.3: of up to 5 Appends, each of which may fail at its write or its sync, behind every crash: what was appended with OK, and at most what was written since.
func TestCrashes(t *testing.T) {
	const most = 5
	tries := 1
	for range most {
		tries *= 3
	}
	for k := range tries {
		var fails []int
		for n := k; len(fails) < most; n /= 3 {
			fails = append(fails, n%3)
		}
		for mask := range 1 << most {
			d := fresh(t, 8)
			l := Log{From: 2, Room: 6, Gen: 9}
			put(t, d, 2, laid(1, 8, 0, "of before"))
			put(t, d, 3, laid(1, 8, 1, "of before"))
			if d.Sync() != api.OK {
				t.Fatal("sync")
			}
			s := told(t, d, l, fails)
			var keep []bool
			for i := range most {
				keep = append(keep, mask>>i&1 == 1)
			}
			d.Crash(keep)
			_, got, e := Replay(d, 2, 6, 9)
			if e != api.OK || len(got) < s.lasts || len(got) > len(s.written) || !slices.Equal(got, s.written[:len(got)]) {
				t.Fatalf("%v %v: %q %v of %v", fails, keep, got, e, s)
			}
			// Just those that waited, up to the first that was lost, came on top.
			n := s.lasts
			for n < len(s.written) && keep[n-s.lasts] {
				n++
			}
			if len(got) != n {
				t.Fatalf("%v %v: %d records, not %d", fails, keep, len(got), n)
			}
		}
	}
}

// P14.3: what lasts is replayed behind many crashes, each log with a generation of its own.
func TestCrashesOn(t *testing.T) {
	r := rand.New(rand.NewPCG(14, 3))
	for range 200 {
		d := fresh(t, 6)
		for gen := range uint64(6) {
			fails := make([]int, 1+r.IntN(6))
			for i := range fails {
				fails[i] = max(0, r.IntN(6)-3)
			}
			s := told(t, d, begun(t, d, 0, 6, gen), fails)
			d.Crash([]bool{r.IntN(2) == 0, r.IntN(2) == 0, r.IntN(2) == 0})
			for range 2 {
				l, got, e := Replay(d, 0, 6, gen)
				if e != api.OK || l.Next != len(got) || len(got) < s.lasts || len(got) > len(s.written) || !slices.Equal(got, s.written[:len(got)]) {
					t.Fatalf("%v: %q %v of %v", fails, got, e, s)
				}
				d.Crash(nil)
			}
		}
	}
}
