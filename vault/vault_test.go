package vault

import (
	"encoding/binary"
	"hash/crc32"
	"math"
	"math/rand/v2"
	"slices"
	"strconv"
	"strings"
	"testing"

	"chaff/api"
	"chaff/disk"
	"chaff/log"
)

// The tests lay sectors by the chapters with the library's numbers and CRC. What a vault has they tell from what was laid, or from what its calls were asked and answered, not from sectors.

// laid is a record's sector.
func laid(kind uint8, gen uint64, index uint32, data string) string {
	out := make([]byte, 128)
	out[0] = kind
	binary.BigEndian.PutUint64(out[1:], gen)
	binary.BigEndian.PutUint32(out[9:], index)
	out[13] = byte(len(data))
	copy(out[14:124], data)
	binary.LittleEndian.PutUint32(out[124:], crc32.ChecksumIEEE(out[:124]))
	return string(out)
}

var blank = strings.Repeat("\x00", 128)

// parts is how many sectors a text takes.
func parts(text string) int { return (len(text) + 4 + 109) / 110 }

// sectors is where a text lies.
func sectors(gen uint64, text string) []string {
	all := string(binary.LittleEndian.AppendUint32([]byte(text), crc32.ChecksumIEEE([]byte(text))))
	var out []string
	for i := range parts(text) {
		kind, end := uint8(2), 110*i+110
		if i == parts(text)-1 {
			kind, end = 3, len(all)
		}
		out = append(out, laid(kind, gen, uint32(i), all[110*i:end]))
	}
	return out
}

// records is where a log's records stand.
func records(gen uint64, all ...string) []string {
	var out []string
	for i, data := range all {
		out = append(out, laid(1, gen, uint32(i), data))
	}
	return out
}

func fresh(t *testing.T, n int) *disk.Disk {
	t.Helper()
	d, e := disk.New(n)
	if e != api.OK {
		t.Fatal(e)
	}
	return d
}

// put writes sectors, from one on.
func put(t *testing.T, d *disk.Disk, from int, all ...string) {
	t.Helper()
	for i, s := range all {
		if e := d.Write(from+i, s); e != api.OK {
			t.Fatal(from+i, e)
		}
	}
}

// sync has all that was put last.
func sync(t *testing.T, d *disk.Disk) {
	t.Helper()
	if e := d.Sync(); e != api.OK {
		t.Fatal(e)
	}
}

// all is what all sectors of a disk have.
func all(d *disk.Disk) []string {
	var out []string
	for i := range d.Size() {
		s, _ := d.Read(i)
		out = append(out, s)
	}
	return out
}

// formatted is a disk with a vault.
func formatted(t *testing.T, size, n int, text string) *disk.Disk {
	t.Helper()
	d := fresh(t, size)
	if e := Format(d, n, text); e != api.OK {
		t.Fatal(e)
	}
	return d
}

// opens looks whether a disk opens as just this vault, and answers it.
func opens(t *testing.T, d *disk.Disk, n, which int, gen uint64, text string, data ...string) Vault {
	t.Helper()
	v, s, l, e := Open(d, n)
	want := Vault{N: n, Slot: which, Log: log.Log{From: 2 * n, Room: d.Size() - 2*n, Gen: gen, Next: len(data)}, Stuck: true}
	if e != api.OK || v != want || s != text || !slices.Equal(l, data) {
		t.Fatalf("%v %q %q %v, not %v %q %q", v, s, l, e, want, text, data)
	}
	return v
}

// fails looks whether a disk doesn't open, with nothing beside the error.
func fails(t *testing.T, d *disk.Disk, n int, want api.Errno) {
	t.Helper()
	if v, s, l, e := Open(d, n); e != want || v != (Vault{}) || s != "" || len(l) != 0 {
		t.Fatalf("%v %q %q %v, not %v", v, s, l, e, want)
	}
}

// settled settles, and looks that it was right.
func settled(t *testing.T, d *disk.Disk, v Vault, gen uint64, text string) Vault {
	t.Helper()
	w, e := v.Settle(d, text)
	v.Slot, v.Log.Gen, v.Log.Next, v.Stuck = 1-v.Slot, gen, 0, false
	if e != api.OK || w != v {
		t.Fatal(w, e, "not", v)
	}
	return w
}

// appended appends, and looks that it was right.
func appended(t *testing.T, d *disk.Disk, v Vault, data string) Vault {
	t.Helper()
	w, e := v.Append(d, data)
	v.Log.Next++
	if e != api.OK || w != v {
		t.Fatal(w, e, "not", v)
	}
	return w
}

func TestExample(t *testing.T) {
	d := formatted(t, 4, 1, "a")
	v := settled(t, d, opens(t, d, 1, 0, 1, "a"), 2, "a")
	appended(t, d, v, "b")
	d.Crash(nil)
	opens(t, d, 1, 1, 2, "a", "b")
}

// narrow is, of a disk's size, how many sectors its slots can't have.
var narrow = map[int][]int{
	1: {1, 2, 0, -1}, 2: {1, 2, 0, -1, -2}, 3: {2, 3, 0, -1}, 4: {2, 3, 4, 0, -1}, 5: {3, 4, 5, 0, -1, -3}, 6: {3, 6, 0},
	7:              {4, 5, 0, math.MaxInt, math.MaxInt/2 + 1, math.MaxInt / 2, math.MinInt, math.MinInt / 2, math.MinInt/2 + 1, 1<<32 + 1, 1 << 31, 1<<63 - 2},
	api.MaxSectors: {api.MaxSectors / 2, api.MaxSectors/2 + 1, api.MaxSectors, 0, -1},
}

// P16.1, P16.2: a disk that hasn't room for two slots and a log is ErrRange, ahead of all else, and nothing is done.
func TestRange(t *testing.T) {
	for size, wrong := range narrow {
		for _, n := range wrong {
			d := fresh(t, size)
			for _, text := range []string{"", "a", strings.Repeat("x", 1<<16)} {
				if e := Format(d, n, text); e != api.ErrRange {
					t.Fatal(size, n, e)
				}
			}
			fails(t, d, n, api.ErrRange) // ahead of ErrNone
			put(t, d, 0, "x"+blank[1:])
			if e := Format(d, n, strings.Repeat("x", 1<<16)); e != api.ErrRange { // ahead of ErrState
				t.Fatal(size, n, e)
			}
			fails(t, d, n, api.ErrRange) // ahead of ErrRot
			if d.Ops() != 1 {
				t.Fatal("something was done")
			}
		}
	}
	for _, fit := range [][2]int{{3, 1}, {4, 1}, {5, 1}, {5, 2}, {6, 2}, {7, 3}, {8, 3}, {api.MaxSectors, 1}, {api.MaxSectors, api.MaxSectors/2 - 1}} {
		fails(t, fresh(t, fit[0]), fit[1], api.ErrNone)
		opens(t, formatted(t, fit[0], fit[1], "a"), fit[1], 0, 1, "a")
	}
	if e := Format(new(disk.Disk), 1, "a"); e != api.ErrRange {
		t.Fatal(e)
	}
	fails(t, new(disk.Disk), 1, api.ErrRange)
}

// P16.1: what a Format writes, of texts of all lengths about the edges: the text into the first slot, with the generation 1, synced.
func TestFormat(t *testing.T) {
	for n := 1; n <= 4; n++ {
		for _, length := range []int{0, 1, 105, 106, 107, 110, 215, 216, 217, 326, 327, 435, 436} {
			text := strings.Repeat("t", length)
			if parts(text) > n {
				continue
			}
			d := formatted(t, 2*n+3, n, text)
			if d.Ops() != parts(text)+1 || d.Waiting() != 0 {
				t.Fatal(d.Ops(), d.Waiting())
			}
			want := sectors(1, text)
			for len(want) < d.Size() {
				want = append(want, blank)
			}
			if !slices.Equal(all(d), want) {
				t.Fatalf("%q", all(d))
			}
			d.Crash(nil)
			opens(t, d, n, 0, 1, text)
		}
	}
}

// P16.1: any sector that isn't blank is ErrState, ahead of ErrLong; a text that is too long ErrLong, and nothing is done.
func TestFormatWrong(t *testing.T) {
	long := strings.Repeat("x", 217)
	for i := range 7 {
		for _, s := range []string{laid(1, 1, 0, "x"), laid(0, 0, 0, ""), laid(9, 1, 1, ""), "\x01" + blank[1:], blank[1:] + "\x80", strings.Repeat("\xff", 128)} {
			d := fresh(t, 7)
			put(t, d, i, s)
			for _, text := range []string{"a", long} {
				if e := Format(d, 2, text); e != api.ErrState {
					t.Fatal(i, e)
				}
			}
			if d.Ops() != 1 || d.Waiting() != 1 {
				t.Fatal("something was done")
			}
			put(t, d, i, blank)
			if e := Format(d, 2, "a"); e != api.OK {
				t.Fatal(e)
			}
			for _, text := range []string{"a", long} {
				if e := Format(d, 2, text); e != api.ErrState {
					t.Fatal(i, e)
				}
			}
		}
	}
	for n := 1; n <= 5; n++ {
		d := fresh(t, 11)
		d.Arm(1)
		for _, more := range []int{1, 2, 3, 4, 5, 110, 1 << 16} {
			if e := Format(d, n, strings.Repeat("x", 110*n-4+more)); e != api.ErrLong {
				t.Fatal(n, more, e)
			}
		}
		if d.Ops() != 0 || d.Sync() != api.ErrDisk {
			t.Fatal("something was done")
		}
		if e := Format(d, n, strings.Repeat("x", 110*n-4)); e != api.OK {
			t.Fatal(n, e)
		}
	}
}

// P16.1: a Format of three parts goes wrong at each of its writes, and at its sync.
func TestFormatFails(t *testing.T) {
	text := strings.Repeat("t", 300)
	for k := 1; k <= 4; k++ {
		d := fresh(t, 7)
		d.Arm(k)
		if e := Format(d, 3, text); e != api.ErrDisk || d.Waiting() != k-1 || d.Ops() != k-1 {
			t.Fatal(k, e, d.Waiting(), d.Ops())
		}
		d.Crash(nil)
		fails(t, d, 3, api.ErrNone)
		if e := Format(d, 3, text); e != api.OK {
			t.Fatal(e)
		}
		opens(t, d, 3, 0, 1, text)
	}
	d := fresh(t, 7)
	d.Arm(5)
	if e := Format(d, 3, text); e != api.OK {
		t.Fatal(e)
	}
}

// P16.2: an Open only reads.
func TestOpenReads(t *testing.T) {
	d := formatted(t, 5, 2, strings.Repeat("t", 200))
	put(t, d, 4, laid(1, 1, 0, "x"))
	before := all(d)
	d.Arm(1)
	for range 3 {
		opens(t, d, 2, 0, 1, strings.Repeat("t", 200), "x")
	}
	if d.Ops() != 4 || d.Waiting() != 1 || !slices.Equal(before, all(d)) || d.Sync() != api.ErrDisk {
		t.Fatal("something was done")
	}
	d.Crash(nil)
	opens(t, d, 2, 0, 1, strings.Repeat("t", 200))
}

// lying is what a slot was laid with.
type lying struct {
	text  string
	gen   uint64
	whole bool
}

// slotted lays a slot of 2 sectors by chance: a text, whole or torn, or nothing.
func slotted(t *testing.T, r *rand.Rand, d *disk.Disk, from int) lying {
	t.Helper()
	gen := []uint64{0, 1, 2, 3, 1 << 40, math.MaxUint64}[r.IntN(6)]
	text := strings.Repeat(string(rune('a'+r.IntN(26))), r.IntN(217))
	switch r.IntN(6) {
	case 0:
		return lying{}
	case 1:
		put(t, d, from, sectors(gen, text+strings.Repeat("z", 216-len(text)))[r.IntN(2)])
		put(t, d, from+1, laid(2, gen, 1, "not the last"))
		return lying{}
	case 2: // another text's parts stand behind it
		text = text[:len(text)/3]
		put(t, d, from+1, laid(3, math.MaxUint64, 1, "behind"))
	}
	put(t, d, from, sectors(gen, text)...)
	return lying{text, gen, true}
}

// logged lays a log by chance, most of its records of a generation. It answers which of these a log of that generation has, and the greatest generation of all.
func logged(t *testing.T, r *rand.Rand, d *disk.Disk, from int, near uint64) ([]string, uint64) {
	t.Helper()
	var mine []string
	var most uint64
	ends := false
	for i := from; i < d.Size(); i++ {
		kind, gen, data := uint8(1), near, strconv.Itoa(r.IntN(1000))
		switch r.IntN(20) {
		case 0:
			ends = true
			continue
		case 1:
			kind = 3
		case 2:
			gen = 0
		case 3:
			gen -= min(gen, 1)
		case 4:
			gen += min(math.MaxUint64-gen, 1)
		}
		put(t, d, i, laid(kind, gen, uint32(i-from), data))
		if kind == 1 {
			most = max(most, gen)
		}
		if ends = ends || kind != 1 || gen != near; !ends {
			mine = append(mine, data)
		}
	}
	return mine, most
}

// P16.2: any two slots and any log: the newest whole slot is opened (of two alike the first), with the records of its generation, or the disk is blank, or rotten.
func TestOpenAny(t *testing.T) {
	r := rand.New(rand.NewPCG(16, 1))
	counts := map[string]int{}
	for range 40000 {
		d := fresh(t, 4+1+r.IntN(4))
		slots := [2]lying{slotted(t, r, d, 0), slotted(t, r, d, 2)}
		which := 0
		if b := slots[1]; b.whole && (!slots[0].whole || b.gen > slots[0].gen) {
			which = 1
		}
		best := slots[which]
		var mine []string
		var most uint64
		if r.IntN(4) > 0 {
			mine, most = logged(t, r, d, 4, best.gen)
		}
		switch {
		case d.Waiting() == 0:
			counts["none"]++
			fails(t, d, 2, api.ErrNone)
		case !best.whole || most > best.gen:
			counts["rot"]++
			fails(t, d, 2, api.ErrRot)
		default:
			counts["ok "+strconv.Itoa(which)]++
			opens(t, d, 2, which, best.gen, best.text, mine...)
		}
	}
	if len(counts) != 4 || counts["none"] < 50 || counts["rot"] < 4000 || counts["ok 0"] < 4000 || counts["ok 1"] < 4000 {
		t.Fatal(counts)
	}
}

// P16.2: of two whole slots of one generation the first is opened.
func TestOpenAlike(t *testing.T) {
	for _, gen := range []uint64{0, 1, 7, math.MaxUint64} {
		d := fresh(t, 4)
		put(t, d, 0, sectors(gen, "first")...)
		put(t, d, 1, sectors(gen, "second")...)
		put(t, d, 2, records(gen, "x", "y")...)
		opens(t, d, 1, 0, gen, "first", "x", "y")
		if gen > 0 {
			put(t, d, 0, sectors(gen-1, "first")...)
			opens(t, d, 1, 1, gen, "second", "x", "y")
		}
	}
}

// P16.2: what makes a disk rotten, each by itself: a sector that is neither blank nor opens, wherever it is and whether or not anything needs it; no whole slot; a record of the log of a greater generation.
func TestRotten(t *testing.T) {
	long := []byte(laid(1, 1, 0, "x")) // its sum is right, but no record has 111 bytes
	long[13] = 111
	binary.LittleEndian.PutUint32(long[124:], crc32.ChecksumIEEE(long[:124]))
	for i := range 9 {
		for _, s := range []string{string(long), "\x01" + blank[1:], blank[1:] + "\x01", strings.Repeat("\xff", 128), laid(1, 1, 0, "x")[:127] + "x"} {
			d := fresh(t, 9)
			put(t, d, 0, sectors(4, "a")...)
			put(t, d, 3, sectors(5, "b")...)
			put(t, d, 6, records(5, "x")...)
			opens(t, d, 3, 1, 5, "b", "x")
			put(t, d, i, s)
			fails(t, d, 3, api.ErrRot)
			d = fresh(t, 9)
			put(t, d, i, s)
			fails(t, d, 3, api.ErrRot) // nothing else isn't blank
		}
	}
	for i := range 7 { // of records alone no slot is whole
		for _, kind := range []uint8{0, 1, 2, 3, 4, 255} {
			d := fresh(t, 7)
			put(t, d, i, laid(kind, 0, 0, ""))
			fails(t, d, 3, api.ErrRot)
		}
	}
	text := strings.Repeat("t", 300)
	for i := range 3 { // a part of each slot is gone
		for j := range 3 {
			d := fresh(t, 7)
			put(t, d, 0, sectors(1, text)...)
			put(t, d, 3, sectors(2, text)...)
			put(t, d, i, blank)
			opens(t, d, 3, 1, 2, text)
			put(t, d, 3+j, blank)
			fails(t, d, 3, api.ErrRot)
			put(t, d, i, sectors(1, text)[i])
			opens(t, d, 3, 0, 1, text)
		}
	}
}

// P16.2: a record of a greater generation than the newest whole slot's is rot in each of the log's sectors, if its Kind is 1, and nowhere else; a torn slot's generation plays no part.
func TestRottenLog(t *testing.T) {
	for _, gen := range []uint64{0, 1, 5, 1 << 32, math.MaxUint64 - 1} {
		for i := 2; i < 7; i++ {
			for _, more := range []uint64{gen + 1, gen | 1<<63 + 1, math.MaxUint64} {
				d := fresh(t, 7)
				put(t, d, 0, sectors(gen, "a")...)
				put(t, d, 1, laid(2, math.MaxUint64, 0, "torn"))
				put(t, d, i, laid(1, more, uint32(i), "x"))
				fails(t, d, 1, api.ErrRot)
				for _, kind := range []uint8{0, 2, 3, 4, 129, 255} {
					put(t, d, i, laid(kind, more, uint32(i-2), "x"))
					opens(t, d, 1, 0, gen, "a")
				}
				put(t, d, i, laid(1, gen-min(gen, 1), uint32(i), "x"))
				opens(t, d, 1, 0, gen, "a")
				put(t, d, 1, laid(1, more, 0, "in a slot"))
				opens(t, d, 1, 0, gen, "a")
				put(t, d, 1, sectors(more, "b")...)
				put(t, d, i, laid(1, more, uint32(i), "x"))
				put(t, d, 2, blank)
				opens(t, d, 1, 1, more, "b")
			}
		}
	}
}

// same looks whether a vault is as it was beside an error, and that nothing was done.
func same(t *testing.T, d *disk.Disk, v Vault, want api.Errno, do func() (Vault, api.Errno)) {
	t.Helper()
	before, ops, waits := all(d), d.Ops(), d.Waiting()
	if w, e := do(); w != v || e != want {
		t.Fatal(w, e, "not", v, want)
	}
	if d.Ops() != ops || d.Waiting() != waits || !slices.Equal(before, all(d)) {
		t.Fatal("something was done")
	}
}

// refusesRecord looks whether an Append answers an error, and does nothing.
func refusesRecord(t *testing.T, d *disk.Disk, v Vault, data string, want api.Errno) {
	t.Helper()
	same(t, d, v, want, func() (Vault, api.Errno) { return v.Append(d, data) })
}

// refusesText looks whether a Settle answers an error, and does nothing.
func refusesText(t *testing.T, d *disk.Disk, v Vault, text string, want api.Errno) {
	t.Helper()
	same(t, d, v, want, func() (Vault, api.Errno) { return v.Settle(d, text) })
}

// P16.3: an Append is its log's, with the log's errors; of a vault that is stuck it is ErrState, ahead of these.
func TestAppend(t *testing.T) {
	d := formatted(t, 7, 2, "a")
	long := strings.Repeat("x", 111)
	v := opens(t, d, 2, 0, 1, "a")
	refusesRecord(t, d, v, "x", api.ErrState)
	refusesRecord(t, d, v, long, api.ErrState)
	v = settled(t, d, v, 2, "b")
	refusesRecord(t, d, v, long, api.ErrLong)
	v = appended(t, d, v, strings.Repeat("x", 110))
	d.Arm(1)
	refusesRecord(t, d, v, "y", api.ErrDisk) // the write fails: the vault is as it was
	d.Arm(2)
	w, e := v.Append(d, "y") // the sync fails: the log has it
	v.Log.Next++
	if e != api.ErrDisk || w != v || d.Waiting() != 1 {
		t.Fatal(w, e)
	}
	opens(t, d, 2, 1, 2, "b", strings.Repeat("x", 110), "y")
	v = appended(t, d, w, "")
	d.Crash(nil)
	opens(t, d, 2, 1, 2, "b", strings.Repeat("x", 110), "y", "")
	refusesRecord(t, d, v, "z", api.ErrFull)
	refusesRecord(t, d, v, long, api.ErrFull)
	v.Stuck = true
	refusesRecord(t, d, v, "z", api.ErrState)
	want := append(sectors(1, "a"), blank, sectors(2, "b")[0], blank)
	if got := all(d); !slices.Equal(got, append(want, records(2, strings.Repeat("x", 110), "y", "")...)) {
		t.Fatalf("%q", got)
	}
}

// P16.3: what a Settle writes: the text into the other slot, with the next generation, synced, and all else is as it was; then there are no records, and there is room for all anew.
func TestSettle(t *testing.T) {
	r := rand.New(rand.NewPCG(16, 3))
	for n := 1; n <= 4; n++ {
		d := formatted(t, 2*n+2, n, "a")
		want := all(d)
		v := opens(t, d, n, 0, 1, "a")
		for gen := uint64(2); gen < 60; gen++ {
			text := strings.Repeat(string(rune('a'+gen%26)), []int{0, 106, 110*n - 4, r.IntN(110*n - 3)}[r.IntN(4)])
			ops := d.Ops()
			v = settled(t, d, v, gen, text)
			copy(want[v.Slot*n:], sectors(gen, text))
			if v.Slot != int(gen+1)%2 || d.Ops() != ops+parts(text)+1 || d.Waiting() != 0 || !slices.Equal(all(d), want) {
				t.Fatalf("%v %q", v, all(d))
			}
			var data []string
			for i := range r.IntN(3) {
				data = append(data, strconv.FormatUint(gen, 10))
				v = appended(t, d, v, data[i])
				want[2*n+i] = laid(1, gen, uint32(i), data[i])
			}
			d.Crash(nil)
			w := opens(t, d, n, v.Slot, gen, text, data...)
			if gen%3 == 0 {
				v = w
			}
		}
	}
}

// P16.3: the generation is 1 more than the greatest of both slots' records, whether they are parts of a text that lies there, or torn, or behind one.
func TestSettleGen(t *testing.T) {
	for _, own := range []uint64{1, 6, 1 << 40} {
		for _, other := range []uint64{0, 2, 6, 7, 1 << 41, math.MaxUint64 - 1} {
			for which := range 2 {
				for place := range 5 {
					d := fresh(t, 7)
					put(t, d, 3*which, sectors(own, "a")...)
					i := []int{3 * (1 - which), 3*(1-which) + 1, 3*(1-which) + 2, 3*which + 1, 3*which + 2}[place]
					put(t, d, i, laid(2+uint8(place)%2, other, 9, "a part"))
					sync(t, d)
					v := settled(t, d, opens(t, d, 3, which, own, "a"), max(own, other)+1, "b")
					d.Crash(nil)
					opens(t, d, 3, 1-which, max(own, other)+1, "b")
					appended(t, d, v, "r")
					opens(t, d, 3, 1-which, max(own, other)+1, "b", "r")
				}
			}
		}
	}
}

// P16.3: a text that is too long is ErrLong; the vault is as it was, stuck or not, and nothing is done.
func TestSettleLong(t *testing.T) {
	for n := 1; n <= 4; n++ {
		most := 110*n - 4
		d := formatted(t, 2*n+2, n, "a")
		v := opens(t, d, n, 0, 1, "a")
		for gen := uint64(2); gen < 5; gen++ {
			d.Arm(1)
			for _, more := range []int{1, 2, 3, 4, 5, 110, 1 << 16} {
				refusesText(t, d, v, strings.Repeat("x", most+more), api.ErrLong)
			}
			if d.Sync() != api.ErrDisk {
				t.Fatal("something was done")
			}
			v = settled(t, d, v, gen, strings.Repeat("x", most))
			v = appended(t, d, v, "r")
		}
	}
}

// P16.3: where there is no greater generation, a text is ErrFull, behind ErrLong and ahead of ErrDisk; the vault is as it was, stuck or not, and nothing is done.
func TestSettleFull(t *testing.T) {
	for place := range 4 {
		for _, kind := range []uint8{2, 3} {
			d := fresh(t, 5)
			gen := uint64(3)
			if place == 0 {
				gen = math.MaxUint64
			} else {
				put(t, d, place, laid(kind, math.MaxUint64, 7, "part"))
			}
			put(t, d, 0, sectors(gen, "a")...)
			sync(t, d)
			v := opens(t, d, 2, 0, gen, "a")
			for _, stuck := range []bool{true, false} {
				v.Stuck = stuck
				d.Arm(1)
				refusesText(t, d, v, "b", api.ErrFull)
				refusesText(t, d, v, strings.Repeat("b", 216), api.ErrFull)
				refusesText(t, d, v, strings.Repeat("b", 217), api.ErrLong)
				if d.Sync() != api.ErrDisk {
					t.Fatal("something was done")
				}
			}
		}
	}
}

// P16.3: a Settle of two parts goes wrong at each of its writes, and at its sync: the vault is stuck, and as it was but for that; what was written waits. It is settled again by a generation above all that was tried.
func TestSettleFails(t *testing.T) {
	text := strings.Repeat("t", 150)
	for k := 1; k <= 3; k++ {
		for _, stuck := range []bool{true, false} {
			for _, again := range []string{"b", text, strings.Repeat("u", 150)} {
				d := formatted(t, 7, 2, "a")
				v := settled(t, d, opens(t, d, 2, 0, 1, "a"), 2, text)
				v = appended(t, d, v, "r")
				if stuck {
					v = opens(t, d, 2, 1, 2, text, "r")
				}
				d.Arm(k)
				w, e := v.Settle(d, text)
				v.Stuck = true
				if e != api.ErrDisk || w != v || d.Waiting() != k-1 {
					t.Fatal(k, w, e, d.Waiting())
				}
				refusesRecord(t, d, w, "x", api.ErrState)
				want := uint64(4)
				if k == 1 {
					want = 3 // nothing was written
				}
				ops := d.Ops()
				w = settled(t, d, w, want, again)
				if d.Ops() != ops+parts(again)+1 || d.Waiting() != 0 {
					t.Fatal(d.Ops()-ops, d.Waiting())
				}
				appended(t, d, w, "s")
				d.Crash(nil)
				opens(t, d, 2, 0, want, again, "s")
			}
		}
	}
}

// R1: calls on vaults that no call answered end, too, and don't panic.
func TestAnyVault(t *testing.T) {
	ends := []int{math.MinInt, math.MinInt / 2, -2, -1, 0, 1, 2, 3, 1 << 32, math.MaxInt/2 + 1, math.MaxInt - 1, math.MaxInt}
	for _, n := range ends {
		for _, which := range ends {
			for _, next := range ends {
				for _, stuck := range []bool{true, false} {
					v := Vault{N: n, Slot: which, Log: log.Log{From: next, Room: n, Gen: uint64(next), Next: which}, Stuck: stuck}
					for _, d := range []*disk.Disk{formatted(t, 5, 1, "a"), new(disk.Disk)} {
						v.Append(d, "x")
						v.Settle(d, "x")
						v.Settle(d, strings.Repeat("x", 1000))
					}
				}
			}
		}
	}
}
