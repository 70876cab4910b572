package slot

import (
	"encoding/binary"
	"hash/crc32"
	"math"
	"math/rand/v2"
	"slices"
	"strings"
	"testing"

	"chaff/api"
	"chaff/disk"
)

// The tests lay sectors by the chapters with the library's numbers and CRC. Whether a text lies in a slot they tell as the chapter words it: by laying each text that might, and holding its sectors against the slot's.

// record is what a sector is laid from.
type record struct {
	kind  uint8
	gen   uint64
	index uint32
	data  string
}

// laid is a record's sector.
func laid(r record) string {
	out := make([]byte, 128)
	out[0] = r.kind
	binary.BigEndian.PutUint64(out[1:], r.gen)
	binary.BigEndian.PutUint32(out[9:], r.index)
	out[13] = byte(len(r.data))
	copy(out[14:124], r.data)
	binary.LittleEndian.PutUint32(out[124:], crc32.ChecksumIEEE(out[:124]))
	return string(out)
}

var blank = strings.Repeat("\x00", 128)

// summed is a text with its sum behind it.
func summed(text string) string {
	return string(binary.LittleEndian.AppendUint32([]byte(text), crc32.ChecksumIEEE([]byte(text))))
}

// cut is what is cut of a text, as records.
func cut(gen uint64, text string) []record {
	var out []record
	for part := range slices.Chunk([]byte(summed(text)), 110) {
		out = append(out, record{2, gen, uint32(len(out)), string(part)})
	}
	out[len(out)-1].kind = 3
	return out
}

// sectors is where a text lies.
func sectors(gen uint64, text string) []string {
	var out []string
	for _, r := range cut(gen, text) {
		out = append(out, laid(r))
	}
	return out
}

// lying is the text that lies in these sectors.
func lying(slot []string) (string, uint64, bool) {
	all := ""
	for _, s := range slot {
		if int(s[13]) > 110 {
			break
		}
		all += s[14 : 14+int(s[13])]
		if len(all) < 4 {
			continue
		}
		text, gen := all[:len(all)-4], binary.BigEndian.Uint64([]byte(slot[0])[1:])
		if want := sectors(gen, text); len(want) <= len(slot) && slices.Equal(want, slot[:len(want)]) {
			return text, gen, true
		}
	}
	return "", 0, false
}

func fresh(t *testing.T, n int) *disk.Disk {
	t.Helper()
	d, e := disk.New(n)
	if e != api.OK {
		t.Fatal(e)
	}
	return d
}

// put writes sectors, from one on.
func put(t *testing.T, d *disk.Disk, from int, all ...string) {
	t.Helper()
	for i, s := range all {
		if e := d.Write(from+i, s); e != api.OK {
			t.Fatal(from+i, e)
		}
	}
}

func sync(t *testing.T, d *disk.Disk) {
	t.Helper()
	if e := d.Sync(); e != api.OK {
		t.Fatal(e)
	}
}

// sector is what stands in a sector.
func sector(t *testing.T, d *disk.Disk, i int) string {
	t.Helper()
	s, e := d.Read(i)
	if e != api.OK {
		t.Fatal(i, e)
	}
	return s
}

// has looks whether just this text lies in a slot.
func has(t *testing.T, d *disk.Disk, from, room int, gen uint64, text string) {
	t.Helper()
	if s, g, ok := Read(d, from, room); s != text || g != gen || !ok {
		t.Fatalf("%d bytes %q, %d, %v, not %d bytes %q, %d", len(s), s, g, ok, len(text), text, gen)
	}
}

// torn looks whether a slot isn't whole.
func torn(t *testing.T, d *disk.Disk, from, room int) {
	t.Helper()
	if s, g, ok := Read(d, from, room); s != "" || g != 0 || ok {
		t.Fatalf("%q, %d, %v", s, g, ok)
	}
}

// write writes a text, and looks that it was right.
func write(t *testing.T, d *disk.Disk, from, room int, gen uint64, text string) {
	t.Helper()
	if e := Write(d, from, room, gen, text); e != api.OK {
		t.Fatal(from, room, gen, len(text), e)
	}
}

// some is a text of any bytes.
func some(r *rand.Rand, n int) string {
	out := make([]byte, n)
	for i := range out {
		out[i] = byte(r.Uint32())
	}
	return string(out)
}

func TestExample(t *testing.T) {
	d := fresh(t, 2)
	write(t, d, 0, 1, 1, "ab")
	s := sector(t, d, 0)
	if s[0] != 3 || s[13] != 6 || s[14:16] != "ab" || d.Waiting() != 1 {
		t.Fatalf("%q", s)
	}
	has(t, d, 0, 1, 1, "ab")
}

// place is where a slot is told to be.
type place struct{ from, room int }

// wrong is where no slot of a disk of 4 sectors lies.
var wrong = []place{
	{0, 0}, {0, -1}, {0, 5}, {0, math.MinInt}, {0, math.MaxInt},
	{-1, 1}, {-1, 5}, {-4, 3}, {math.MinInt, 1}, {math.MinInt, math.MaxInt}, {-1, math.MaxInt},
	{1, 4}, {3, 2}, {4, 1}, {5, 1}, {4, 0}, {3, 0}, {2, -1}, {5, -1},
	{math.MaxInt, 1}, {math.MaxInt, math.MaxInt}, {1, math.MaxInt}, {math.MaxInt, math.MinInt}, {1 << 32, 1}, {0, 1<<32 + 1},
}

// P15.1, P15.2, P15.3: of no slot nothing is read, it is ErrRange ahead of ErrLong, and nothing is done.
func TestWrongPlace(t *testing.T) {
	d := fresh(t, 4)
	for i := range 4 {
		put(t, d, i, sectors(7, "text")...)
	}
	d.Arm(1)
	for _, w := range wrong {
		torn(t, d, w.from, w.room)
		if g := Newest(d, w.from, w.room); g != 0 {
			t.Fatal(w, g)
		}
		for _, n := range []int{0, 1, 106, 107, 437, 1 << 16} {
			if e := Write(d, w.from, w.room, 8, strings.Repeat("x", n)); e != api.ErrRange {
				t.Fatal(w, n, e)
			}
		}
	}
	if d.Ops() != 4 || d.Waiting() != 4 || d.Write(0, blank) != api.ErrDisk {
		t.Fatal("something was done")
	}
	for from := range 4 {
		for room := 1; from+room <= 4; room++ {
			has(t, d, from, room, 7, "text")
			if g := Newest(d, from, room); g != 7 {
				t.Fatal(from, room, g)
			}
		}
	}
	empty := new(disk.Disk)
	torn(t, empty, 0, 1)
	if Newest(empty, 0, 1) != 0 || Write(empty, 0, 1, 1, "") != api.ErrRange {
		t.Fatal("a slot of no disk")
	}
}

// lengths is how many bytes a text has, about each one at which a part is full or a record more begins.
func lengths() []int {
	var out []int
	for parts := range 5 {
		for _, near := range []int{-6, -5, -4, -3, -2, -1, 0, 1, 2} {
			if n := 110*parts + near; n >= 0 {
				out = append(out, n)
			}
		}
	}
	return append(out, 50, 1000)
}

// P15.1, P15.2: texts of all lengths about the edges: their sectors, one behind the other, with all else as it was and nothing synced; they are read as they were.
func TestWrite(t *testing.T) {
	r := rand.New(rand.NewPCG(15, 1))
	for _, n := range lengths() {
		for _, text := range []string{some(r, n), strings.Repeat("\x00", n), strings.Repeat("\xff", n)} {
			gen := r.Uint64() >> r.IntN(64)
			need := (n + 4 + 109) / 110
			for _, room := range []int{need, need + 1, need + 3} {
				d := fresh(t, room+3)
				want := make([]string, room+3)
				for i := range want {
					want[i] = laid(record{3, uint64(i), uint32(i), "old"})
				}
				put(t, d, 0, want...)
				sync(t, d)
				write(t, d, 2, room, gen, text)
				copy(want[2:], sectors(gen, text))
				for i, s := range want {
					if sector(t, d, i) != s {
						t.Fatalf("%d bytes: sector %d", n, i)
					}
				}
				if d.Waiting() != need || d.Ops() != len(want)+1+need {
					t.Fatal(n, d.Waiting(), d.Ops())
				}
				has(t, d, 2, room, gen, text)
				has(t, d, 2, need, gen, text)
				if need > 1 {
					torn(t, d, 2, need-1)
				}
			}
		}
	}
}

// P15.2: a text of 110 times room, less 4, is written, of one byte more it is ErrLong, and nothing is done.
func TestWriteLong(t *testing.T) {
	for _, room := range []int{1, 2, 3, 7, 100, api.MaxSectors} {
		d := fresh(t, room)
		most := 110*room - 4
		d.Arm(1)
		for _, n := range []int{most + 1, most + 2, most + 3, most + 4, most + 5, most + 110, most + 1<<16} {
			if e := Write(d, 0, room, 1, strings.Repeat("x", n)); e != api.ErrLong {
				t.Fatal(room, n, e)
			}
		}
		if d.Write(0, blank) != api.ErrDisk || d.Ops() != 0 || d.Waiting() != 0 {
			t.Fatal("something was done")
		}
		write(t, d, 0, room, 1, strings.Repeat("x", most))
		if d.Waiting() != room {
			t.Fatal(d.Waiting())
		}
		has(t, d, 0, room, 1, strings.Repeat("x", most))
		write(t, d, 0, room, 2, strings.Repeat("y", most-1))
		has(t, d, 0, room, 2, strings.Repeat("y", most-1))
	}
}

// P15.2: the k-th record's write fails: those ahead of it wait, none behind it is written.
func TestWriteFails(t *testing.T) {
	text := strings.Repeat("t", 400)
	for k := 1; k <= 5; k++ {
		d := fresh(t, 5)
		d.Arm(k)
		e := Write(d, 0, 5, 1, text)
		if k == 5 {
			// Four records are written, and nothing is synced.
			if e != api.OK || d.Sync() != api.ErrDisk {
				t.Fatal(e)
			}
			continue
		}
		if e != api.ErrDisk || d.Waiting() != k-1 || d.Ops() != k-1 {
			t.Fatal(k, e, d.Waiting(), d.Ops())
		}
		for i, s := range sectors(1, text) {
			if got := sector(t, d, i); i < k-1 && got != s || i >= k-1 && got != blank {
				t.Fatal(k, i)
			}
		}
		torn(t, d, 0, 5)
		write(t, d, 0, 5, 1, text)
		has(t, d, 0, 5, 1, text)
	}
}

// P15.1: what is almost a text, told by the chapter: each of these isn't whole.
func TestReadTorn(t *testing.T) {
	text := strings.Repeat("q", 250) // with its sum three parts, of 110, 110 and 34 bytes
	change := func(i int, by func(r *record)) []string {
		all := cut(5, text)
		by(&all[i])
		var out []string
		for _, r := range all {
			out = append(out, laid(r))
		}
		return out
	}
	var cases [][]string
	for i := range 3 {
		for _, kind := range []uint8{0, 1, 2, 3, 4, 130, 255} {
			if kind != 2 && i < 2 || kind != 3 && i == 2 {
				cases = append(cases, change(i, func(r *record) { r.kind = kind }))
			}
		}
		for _, gen := range []uint64{0, 4, 6, 5 + 1<<32, math.MaxUint64} {
			cases = append(cases, change(i, func(r *record) { r.gen = gen }))
		}
		for _, more := range []uint32{1, 2, 1 << 8, 1 << 16, 1 << 31, math.MaxUint32} {
			cases = append(cases, change(i, func(r *record) { r.index += more }))
		}
		cases = append(cases,
			change(i, func(r *record) { r.data = r.data[:len(r.data)-1] }),
			change(i, func(r *record) { r.data = r.data[1:] }),
			change(i, func(r *record) { r.data = "" }),
			change(i, func(r *record) { r.data = "r" + r.data[1:] }),
			change(i, func(r *record) { r.data = r.data[:len(r.data)-1] + "r" }),
		)
		for _, other := range []string{blank, laid(record{2, 5, uint32(i), strings.Repeat("z", 110)}), strings.Repeat("\xff", 128)} {
			all := sectors(5, text)
			all[i] = other
			cases = append(cases, all)
		}
	}
	cases = append(cases,
		change(2, func(r *record) { r.data += "x" }),
		change(2, func(r *record) { r.data += "\x00" }),
		[]string{blank, blank, blank},
		sectors(5, text)[:2],
		sectors(5, text)[1:],
		append([]string{blank}, sectors(5, text)...),
		append([]string{laid(record{1, 5, 0, "log"})}, sectors(5, text)...),
	)
	for _, all := range cases {
		d := fresh(t, 5)
		put(t, d, 1, all...)
		torn(t, d, 1, 4)
	}
	d := fresh(t, 5)
	put(t, d, 1, sectors(5, text)...)
	has(t, d, 1, 4, 5, text)
}

// P15.1: a text is cut into parts of 110 bytes, of which only the last one may be shorter, and none is empty: one that is cut elsewhere doesn't lie there, though its sum is right.
func TestReadCutElsewhere(t *testing.T) {
	text := strings.Repeat("q", 216) // with its sum just two parts
	all := summed(text)
	cases := [][]string{
		{all[:110], all[110:219], all[219:]},
		{all[:110], all[110:], ""},
		{all[:109], all[109:219], all[219:]},
		{all[:100], all[100:200], all[200:]},
		{"", all[:110], all[110:]},
		{all[:110], "", all[110:]},
		{all[:1], all[1:111], all[111:]},
	}
	for _, c := range cases {
		d := fresh(t, 4)
		for i, data := range c {
			kind := uint8(2)
			if i == len(c)-1 {
				kind = 3
			}
			put(t, d, i, laid(record{kind, 1, uint32(i), data}))
		}
		torn(t, d, 0, 4)
		torn(t, d, 0, 3)
	}
	// The sum alone, or less than a sum; a sum that is turned about.
	for _, c := range []struct {
		data string
		ok   bool
	}{{summed(""), true}, {"", false}, {"\x00", false}, {"\x00\x00", false}, {"\x00\x00\x00", false}, {"\x00\x00\x00\x00", true}, {"\x00\x00\x00\x00\x00", false}, {summed("a"), true}, {"a\xe8\xb7\xbe\x43", false}} {
		d := fresh(t, 1)
		put(t, d, 0, laid(record{3, 9, 0, c.data}))
		if s, g, ok := Read(d, 0, 1); ok != c.ok || ok && (s != c.data[:len(c.data)-4] || g != 9) || !ok && (s != "" || g != 0) {
			t.Fatalf("%q: %q %d %v", c.data, s, g, ok)
		}
	}
}

// P15.1: the parts stand in sectors one behind the other: where one stands between them that isn't a part, or they are told as if one did, no text lies there, though its sum is right.
func TestReadGaps(t *testing.T) {
	text := strings.Repeat("q", 150)
	first, second := laid(cut(1, text)[0]), cut(1, text)[1]
	for _, other := range []string{blank, strings.Repeat("\xff", 128), laid(record{1, 1, 1, ""}), laid(record{2, 1, 1, ""}), first} {
		for _, index := range []uint32{1, 2} {
			second.index = index
			d := fresh(t, 3)
			put(t, d, 0, first, other, laid(second))
			torn(t, d, 0, 3)
		}
	}
	second.index = 2
	d := fresh(t, 3)
	put(t, d, 0, first, laid(second))
	torn(t, d, 0, 3)
	second.index = 1
	put(t, d, 1, laid(second))
	has(t, d, 0, 3, 1, text)
}

// P15.1: what the sectors behind a text have plays no part, nor what is ahead of it or behind the slot.
func TestReadBehind(t *testing.T) {
	for _, n := range []int{0, 100, 106, 107, 216, 217} {
		text := strings.Repeat("v", n)
		all := sectors(4, text)
		next := uint32(len(all))
		for _, other := range []string{
			blank, strings.Repeat("\xff", 128), laid(record{3, 4, next, "more"}), laid(record{2, 4, next, strings.Repeat("m", 110)}),
			laid(record{3, 4, 0, "more"}), laid(record{3, 5, 0, summed("newer")}), laid(record{1, 4, next, "log"}),
		} {
			d := fresh(t, 8)
			put(t, d, 0, other, other)
			put(t, d, 2, all...)
			put(t, d, 2+len(all), other, other)
			for room := len(all); room <= 6; room++ {
				has(t, d, 2, room, 4, text)
			}
		}
	}
}

// P15.1: any sectors, put together of parts of a few texts and generations, are read as the chapter words it.
func TestReadAny(t *testing.T) {
	r := rand.New(rand.NewPCG(15, 2))
	texts := []string{"", "a", strings.Repeat("b", 106), strings.Repeat("b", 107), strings.Repeat("c", 216), strings.Repeat("d", 217), strings.Repeat("c", 215) + "e"}
	wholes := 0
	for range 40000 {
		room := 1 + r.IntN(4)
		gens := 1 + r.IntN(2)
		var all []string
		for i := range room {
			parts := sectors(uint64(r.IntN(gens)), texts[r.IntN(len(texts))])
			at := i
			if r.IntN(8) == 0 {
				at = r.IntN(4)
			}
			if at >= len(parts) {
				all = append(all, blank)
				continue
			}
			all = append(all, parts[at])
		}
		d := fresh(t, room+1)
		put(t, d, 1, all...)
		text, gen, ok := lying(all)
		if s, g, yes := Read(d, 1, room); s != text || g != gen || yes != ok {
			t.Fatalf("%q: %q %d %v, not %q %d %v", all, s, g, yes, text, gen, ok)
		}
		if ok {
			wholes++
		}
	}
	if wholes < 4000 || wholes > 36000 {
		t.Fatal(wholes, "of 40000 are whole")
	}
}

// P15.3: the greatest generation of Kind 2 or 3, in any of the slot's sectors, whatever its Index and Data, and whether the slot is whole or not.
func TestNewest(t *testing.T) {
	d := fresh(t, 6)
	newest := func(want uint64) {
		t.Helper()
		if g := Newest(d, 1, 4); g != want {
			t.Fatal(g, "not", want)
		}
	}
	newest(0)
	put(t, d, 0, laid(record{3, 99, 0, ""}))
	put(t, d, 5, laid(record{2, 99, 4, ""}))
	newest(0)
	for _, kind := range []uint8{0, 1, 4, 5, 255} {
		put(t, d, 1, laid(record{kind, 98, 0, "x"}))
		newest(0)
	}
	put(t, d, 1, laid(record{3, 0, 0, summed("")}))
	newest(0)
	put(t, d, 4, laid(record{2, 3, 77, ""}))
	newest(3)
	put(t, d, 2, laid(record{3, 5, 1, "x"}))
	newest(5)
	put(t, d, 3, laid(record{2, 4, 0, strings.Repeat("y", 110)}))
	newest(5)
	rotten := []byte(laid(record{3, 1 << 40, 0, "x"}))
	rotten[20] ^= 4
	put(t, d, 3, string(rotten))
	newest(5)
	put(t, d, 4, laid(record{3, math.MaxUint64, 1, "x"}))
	newest(math.MaxUint64)
	put(t, d, 1, laid(record{2, 1 << 63, 1, "x"}))
	newest(math.MaxUint64)
	put(t, d, 4, blank)
	newest(1 << 63)
	torn(t, d, 1, 4)
	for from := range 6 {
		for room := 1; from+room <= 6; room++ {
			var want uint64
			for i := from; i < from+room; i++ {
				want = max(want, []uint64{99, 1 << 63, 5, 0, 0, 99}[i])
			}
			if g := Newest(d, from, room); g != want {
				t.Fatal(from, room, g, want)
			}
		}
	}
}

// P15.1, P15.3: looking doesn't write.
func TestLooksOnly(t *testing.T) {
	d := fresh(t, 3)
	put(t, d, 0, sectors(5, strings.Repeat("t", 200))...)
	d.Arm(1)
	has(t, d, 0, 3, 5, strings.Repeat("t", 200))
	if Newest(d, 0, 3) != 5 || d.Waiting() != 2 || d.Ops() != 2 || d.Sync() != api.ErrDisk {
		t.Fatal("something was done")
	}
}

// P15.4: a text that was written and synced is read behind every crash.
func TestSynced(t *testing.T) {
	r := rand.New(rand.NewPCG(15, 4))
	d := fresh(t, 8)
	for gen := range uint64(200) {
		room := 1 + r.IntN(7)
		text := some(r, r.IntN(110*room-3))
		write(t, d, 1, room, gen, text)
		sync(t, d)
		d.Crash([]bool{r.IntN(2) == 0})
		has(t, d, 1, room, gen, text)
		has(t, d, 1, 7, gen, text)
	}
}

// P15.4: behind a crash within a write of an unlike generation, at each record and with each part of it kept, a slot has what it had, or the new text, or isn't whole; it has nothing else.
func TestCrashes(t *testing.T) {
	lengths := []int{0, 106, 107, 216, 217, 326, 327, 400}
	for _, had := range append([]int{-1}, lengths...) {
		for _, n := range lengths {
			before, after := strings.Repeat("o", max(had, 0)), strings.Repeat("n", n)
			if n%2 == 0 {
				after = before[:min(n, len(before))] + after[min(n, len(before)):]
			}
			for _, gen := range []uint64{8, 10, 0, math.MaxUint64} {
				crashes(t, had >= 0, before, after, gen)
			}
		}
	}
}

// crashes has a write of after fail at each of its records, or at none, and every part of what waits be kept.
func crashes(t *testing.T, had bool, before, after string, gen uint64) {
	t.Helper()
	parts := len(sectors(gen, after))
	for fails := range parts + 1 {
		for mask := range 1 << parts {
			d := fresh(t, 6)
			if had {
				put(t, d, 1, sectors(9, before)...)
			}
			sync(t, d)
			d.Arm(fails)
			if e := Write(d, 1, 4, gen, after); (e == api.OK) != (fails == 0) || e != api.OK && e != api.ErrDisk {
				t.Fatal(fails, e)
			}
			var keep []bool
			for i := range parts {
				keep = append(keep, mask>>i&1 == 1)
			}
			d.Crash(keep)
			s, g, ok := Read(d, 1, 4)
			old := had && ok && s == before && g == 9
			young := ok && s == after && g == gen
			none := !ok && s == "" && g == 0
			if !old && !young && !none {
				t.Fatalf("%q %d %v", s, g, ok)
			}
			if mask == 0 && old != had || fails == 0 && mask == 1<<parts-1 && !young {
				t.Fatalf("%q %d %v behind a crash that kept all or nothing", s, g, ok)
			}
		}
	}
}
