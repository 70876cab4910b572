package table

import (
	"encoding/binary"
	"math"
	"math/big"
	"math/rand/v2"
	"runtime"
	"strings"
	"testing"

	"chaff/api"
)

// The tests lay and read bytes by encoding/binary, which the program itself may not call.

const top = math.MaxUint32

// wrongContacts are no contacts, wrongClasses no classes.
var (
	wrongContacts = []int{math.MinInt, -1 << 32, -256, -16, -2, -1, 16, 17, 31, 32, 256, 257, 1 << 32, 1<<32 + 1, math.MaxInt}
	wrongClasses  = []int{math.MinInt, -1 << 32, -256, -8, -2, -1, 8, 9, 15, 16, 256, 257, 1 << 32, 1<<32 + 1, math.MaxInt}
)

// wrongMs are no numbers of contacts, wrongNs none of classes.
var (
	wrongMs = []int{math.MinInt, -1 << 32, -256, -16, -1, 0, 17, 18, 32, 256, 257, 1 << 32, 1<<32 + 1, math.MaxInt}
	wrongNs = []int{math.MinInt, -1 << 32, -256, -8, -1, 0, 9, 10, 16, 256, 257, 1 << 32, 1<<32 + 1, math.MaxInt}
)

// random is a number of 32 bits, of all sizes.
func random(r *rand.Rand) uint32 { return r.Uint32() >> r.IntN(32) }

// some is a table of any counts, in its first m rows and n classes.
func some(r *rand.Rand, m, n int) Table {
	t := Table{Last: r.Uint64() >> r.IntN(64)}
	for class := range n {
		t.Global[class] = random(r)
		for contact := range m {
			t.Rows[contact][class] = random(r)
		}
	}
	return t
}

// full is a table of the greatest counts, in its first m rows and n classes.
func full(m, n int) Table {
	t := Table{Last: math.MaxUint64}
	for class := range n {
		t.Global[class] = top
		for contact := range m {
			t.Rows[contact][class] = top
		}
	}
	return t
}

// counts are all counts of a table, that of all ahead.
func counts(t *Table) []*uint32 {
	var out []*uint32
	for class := range t.Global {
		out = append(out, &t.Global[class])
	}
	for contact := range t.Rows {
		for class := range t.Rows[contact] {
			out = append(out, &t.Rows[contact][class])
		}
	}
	return out
}

// long is how many bytes a table of m contacts and n classes has.
func long(m, n int) int { return 8 + 4*n + 4*n*m }

// laid are a table's bytes, whatever its other counts are.
func laid(t Table, m, n int) string {
	b := binary.BigEndian.AppendUint64(nil, t.Last)
	for _, c := range t.Global[:n] {
		b = binary.BigEndian.AppendUint32(b, c)
	}
	for _, row := range t.Rows[:m] {
		for _, c := range row[:n] {
			b = binary.BigEndian.AppendUint32(b, c)
		}
	}
	return string(b)
}

// read is the table of bytes, as the chapter tells it.
func read(s string, m, n int) (Table, api.Errno) {
	switch {
	case m < 1 || m > 16 || n < 1 || n > 8:
		return Table{}, api.ErrRange
	case len(s) < long(m, n):
		return Table{}, api.ErrShort
	case len(s) > long(m, n):
		return Table{}, api.ErrLong
	}
	b := []byte(s)
	t := Table{Last: binary.BigEndian.Uint64(b)}
	for i := range n {
		t.Global[i] = binary.BigEndian.Uint32(b[8+4*i:])
	}
	for k := range m {
		for i := range n {
			t.Rows[k][i] = binary.BigEndian.Uint32(b[8+4*n*(k+1)+4*i:])
		}
	}
	return t, api.OK
}

// adds looks whether a table has one more there, as the chapter tells it, or this error, beside which it is as it was.
func adds(t *testing.T, x Table, contact, class int, fault api.Errno) Table {
	t.Helper()
	was, want := x, x
	if fault == api.OK {
		want.Rows[contact][class]++
		want.Global[class]++
	}
	y, e := x.Add(contact, class)
	if e != fault || y != want {
		t.Fatalf("Add(%d, %d): %v %v, not %v %v", contact, class, y, e, want, fault)
	}
	if x != was {
		t.Fatalf("Add(%d, %d) changed its table: %v", contact, class, x)
	}
	return y
}

// sees looks whether a table has that round as Last, or is as it was beside ErrOld.
func sees(t *testing.T, x Table, round uint64, fault api.Errno) {
	t.Helper()
	was, want := x, x
	if fault == api.OK {
		want.Last = round
	}
	y, e := x.Seen(round)
	if e != fault || y != want || x != was {
		t.Fatalf("%v.Seen(%d): %v %v, not %v %v", was, round, y, e, want, fault)
	}
}

// encodes looks whether a table has these bytes, or none beside this error; and, P20.4, whether they are decoded as it was.
func encodes(t *testing.T, x Table, m, n int, want string, fault api.Errno) {
	t.Helper()
	was := x
	s, e := x.Encode(m, n)
	if s != want || e != fault || x != was {
		t.Fatalf("%v.Encode(%d, %d): %q %v, not %q %v", x, m, n, s, e, want, fault)
	}
	if y, f := Decode(s, m, n); e == api.OK && (y != x || f != api.OK) {
		t.Fatalf("%v, encoded by %d and %d, is decoded as %v %v", x, m, n, y, f)
	}
}

// decodes looks whether bytes have this table, or the zero one beside this error; and whether it is encoded as it was.
func decodes(t *testing.T, s string, m, n int, want Table, fault api.Errno) {
	t.Helper()
	x, e := Decode(s, m, n)
	if x != want || e != fault {
		t.Fatalf("Decode(%.40q, %d, %d): %v %v, not %v %v", s, m, n, x, e, want, fault)
	}
	if again, f := x.Encode(m, n); e == api.OK && (again != s || f != api.OK) {
		t.Fatalf("%.40q, decoded by %d and %d, is encoded as %.40q %v", s, m, n, again, f)
	}
}

// covers looks whether one table covers another.
func covers(t *testing.T, x, y Table, want bool) {
	t.Helper()
	if ok := x.Covers(y); ok != want {
		t.Fatalf("%v covers %v: %v", x, y, ok)
	}
}

// balanced looks whether the row of all is the sum of the contacts' rows.
func balanced(t *testing.T, x Table) {
	t.Helper()
	for class, all := range x.Global {
		var sum uint64
		for _, row := range x.Rows {
			sum += uint64(row[class])
		}
		if sum != uint64(all) {
			t.Fatalf("class %d: %d in all, of %d", class, all, sum)
		}
	}
}

func TestExample(t *testing.T) {
	x, e := Table{}.Add(1, 2)
	if e != api.OK || x.Rows[1][2] != 1 || x.Global[2] != 1 {
		t.Fatal(x, e)
	}
}

// P20.1: each class of each contact, of tables of all kinds: one more there and in the row of all, and nowhere else.
func TestAdd(t *testing.T) {
	r := rand.New(rand.NewPCG(20, 1))
	l := []Table{{}, {Last: 7}, {Last: math.MaxUint64}}
	for range 20 {
		l = append(l, some(r, 16, 8))
	}
	for _, x := range l {
		for _, c := range counts(&x) {
			*c = min(*c, top-1)
		}
		for contact := range 16 {
			for class := range 8 {
				once := adds(t, x, contact, class, api.OK)
				if once.Rows[contact][class] < top && once.Global[class] < top {
					adds(t, once, contact, class, api.OK)
				}
			}
		}
	}
}

// P20.1: contacts and classes that aren't; of several errors the first, and beside each the table as it was.
func TestAddWrong(t *testing.T) {
	r := rand.New(rand.NewPCG(20, 2))
	for _, x := range []Table{{}, {Last: 5}, full(16, 8), some(r, 16, 8)} {
		for _, contact := range wrongContacts {
			for class := range 8 {
				adds(t, x, contact, class, api.ErrName)
			}
			for _, class := range wrongClasses {
				adds(t, x, contact, class, api.ErrName)
			}
		}
		for contact := range 16 {
			for _, class := range wrongClasses {
				adds(t, x, contact, class, api.ErrClass)
			}
		}
	}
}

// P20.1: a count that is as great as can be, be it the contact's or that of all, is full; no other one plays a part.
func TestAddFull(t *testing.T) {
	for contact := range 16 {
		for class := range 8 {
			var own, all, both Table
			own.Rows[contact][class] = top
			all.Global[class] = top
			both.Rows[contact][class], both.Global[class] = top, top
			for _, x := range []Table{own, all, both, full(16, 8)} {
				adds(t, x, contact, class, api.ErrFull)
			}
			others := full(16, 8)
			others.Rows[contact][class], others.Global[class] = top-1, top-1
			once := adds(t, others, contact, class, api.OK)
			adds(t, once, contact, class, api.ErrFull)
			others.Rows[contact][class], others.Global[class] = 0, 0
			adds(t, others, contact, class, api.OK)
			others.Rows[contact][class], others.Global[class] = top-1, top
			adds(t, others, contact, class, api.ErrFull)
			others.Rows[contact][class], others.Global[class] = top, top-1
			adds(t, others, contact, class, api.ErrFull)
		}
	}
}

// P20.1: a round that is above Last is seen, another one is old; counts stay.
func TestSeen(t *testing.T) {
	r := rand.New(rand.NewPCG(20, 3))
	rounds := []uint64{0, 1, 2, 255, 256, 1<<31 - 1, 1 << 31, top, 1 << 32, 1<<32 + 1, 1<<63 - 1, 1 << 63, 1<<63 + 1, math.MaxUint64 - 1, math.MaxUint64}
	for range 20 {
		rounds = append(rounds, r.Uint64()>>r.IntN(64))
	}
	for _, x := range []Table{{}, full(16, 8), some(r, 16, 8), some(r, 2, 3)} {
		for _, last := range rounds {
			x.Last = last
			for _, round := range rounds {
				want := api.ErrOld
				if round > last {
					want = api.OK
				}
				sees(t, x, round, want)
			}
			sees(t, x, last, api.ErrOld)
			if last < math.MaxUint64 {
				sees(t, x, last+1, api.OK)
			}
			if last > 0 {
				sees(t, x, last-1, api.ErrOld)
			}
		}
	}
	sees(t, Table{}, 0, api.ErrOld)
	sees(t, Table{}, 1, api.OK)
}

// P20.2: each byte of a table, written out.
func TestBytes(t *testing.T) {
	x := Table{Last: 0x0102030405060708}
	x.Global = Row{0x11121314, 0x21222324}
	x.Rows[0] = Row{0x31323334, 0x41424344}
	x.Rows[1] = Row{0x51525354, 0xf1f2f3f4}
	s := "\x01\x02\x03\x04\x05\x06\x07\x08\x11\x12\x13\x14\x21\x22\x23\x24\x31\x32\x33\x34\x41\x42\x43\x44\x51\x52\x53\x54\xf1\xf2\xf3\xf4"
	encodes(t, x, 2, 2, s, api.OK)
	decodes(t, s, 2, 2, x, api.OK)
	// The same bytes, of one contact and three classes.
	y := Table{Last: x.Last, Global: Row{0x11121314, 0x21222324, 0x31323334}}
	y.Rows[0] = Row{0x41424344, 0x51525354, 0xf1f2f3f4}
	encodes(t, y, 1, 3, s, api.OK)
	decodes(t, s, 1, 3, y, api.OK)
	// And of five contacts and one class.
	z := Table{Last: x.Last, Global: Row{0x11121314}}
	for i, c := range []uint32{0x21222324, 0x31323334, 0x41424344, 0x51525354, 0xf1f2f3f4} {
		z.Rows[i] = Row{c}
	}
	encodes(t, z, 5, 1, s, api.OK)
	decodes(t, s, 5, 1, z, api.OK)
}

// P20.2, P20.4: tables of each number of contacts and classes, as the chapter tells their bytes.
func TestEncode(t *testing.T) {
	r := rand.New(rand.NewPCG(20, 4))
	for m := 1; m <= 16; m++ {
		for n := 1; n <= 8; n++ {
			l := []Table{{}, {Last: 1}, {Last: math.MaxUint64}, full(m, n), some(r, 1, 1)}
			for range 10 {
				l = append(l, some(r, m, n))
			}
			for _, x := range l {
				encodes(t, x, m, n, laid(x, m, n), api.OK)
			}
			decodes(t, strings.Repeat("\x00", long(m, n)), m, n, Table{}, api.OK)
			decodes(t, strings.Repeat("\xff", long(m, n)), m, n, full(m, n), api.OK)
		}
	}
}

// P20.2: each count that is in none of the bytes, by itself, at each size.
func TestEncodeOthers(t *testing.T) {
	r := rand.New(rand.NewPCG(20, 5))
	for m := 1; m <= 16; m++ {
		for n := 1; n <= 8; n++ {
			for _, x := range []Table{{}, full(m, n), some(r, m, n)} {
				for i, c := range counts(&x) {
					contact, class := i/8-1, i%8
					was := *c
					for _, v := range []uint32{1, 256, 1 << 31, top} {
						*c = v
						if contact < m && class < n {
							encodes(t, x, m, n, laid(x, m, n), api.OK)
						} else {
							encodes(t, x, m, n, "", api.ErrForm)
						}
					}
					*c = was
				}
			}
		}
	}
}

// P20.2: numbers of contacts and classes that aren't, ahead of all else.
func TestWrongSizes(t *testing.T) {
	r := rand.New(rand.NewPCG(20, 6))
	tables := []Table{{}, full(16, 8), some(r, 2, 2)}
	texts := []string{"", "\x00", strings.Repeat("\x00", 8), strings.Repeat("\x00", 16), strings.Repeat("\x00", 24), laid(full(16, 8), 16, 8), strings.Repeat("\x01", 5000)}
	none := func(m, n int) {
		t.Helper()
		for _, x := range tables {
			encodes(t, x, m, n, "", api.ErrRange)
		}
		for _, s := range texts {
			decodes(t, s, m, n, Table{}, api.ErrRange)
		}
	}
	for _, m := range wrongMs {
		for n := 1; n <= 8; n++ {
			none(m, n)
		}
		for _, n := range wrongNs {
			none(m, n)
		}
	}
	for m := 1; m <= 16; m++ {
		for _, n := range wrongNs {
			none(m, n)
		}
	}
}

// P20.2: bytes that are cut are too few, wherever; with some behind there are too many.
func TestDecodeShortAndLong(t *testing.T) {
	r := rand.New(rand.NewPCG(20, 7))
	for m := 1; m <= 16; m++ {
		for n := 1; n <= 8; n++ {
			s := laid(some(r, m, n), m, n)
			for cut := range len(s) {
				decodes(t, s[:cut], m, n, Table{}, api.ErrShort)
			}
			for _, rest := range []string{"\x00", "\xff", "\x00\x00\x00\x00", "12345678", s, strings.Repeat("\x00", 70000)} {
				decodes(t, s+rest, m, n, Table{}, api.ErrLong)
			}
		}
	}
}

// P20.2: bytes of one size, read by each other one.
func TestDecodeByOthers(t *testing.T) {
	for long := 0; long <= 600; long++ {
		s := strings.Repeat("\x80\x01\x7f", 200)[:long]
		for m := 1; m <= 16; m++ {
			for n := 1; n <= 8; n++ {
				want, fault := read(s, m, n)
				decodes(t, s, m, n, want, fault)
			}
		}
	}
}

// P20.2: each byte of a table, turned into each other one.
func TestEachByte(t *testing.T) {
	r := rand.New(rand.NewPCG(20, 8))
	for _, size := range [][2]int{{1, 1}, {2, 2}, {1, 8}, {16, 1}, {3, 5}, {16, 8}} {
		m, n := size[0], size[1]
		s := []byte(laid(some(r, m, n), m, n))
		for i, was := range s {
			for b := range 256 {
				s[i] = byte(b)
				want, fault := read(string(s), m, n)
				decodes(t, string(s), m, n, want, fault)
			}
			s[i] = was
		}
	}
}

// P20.2: what is behind isn't copied for each number, so that very long bytes end, too (R1).
func TestVeryLong(t *testing.T) {
	s := strings.Repeat("\x00", 1<<24)
	for _, size := range [][2]int{{1, 1}, {16, 8}, {0, 0}} {
		want := api.ErrLong
		if size[0] == 0 {
			want = api.ErrRange
		}
		var from, to runtime.MemStats
		runtime.ReadMemStats(&from)
		_, e := Decode(s, size[0], size[1])
		runtime.ReadMemStats(&to)
		if e != want || to.TotalAlloc-from.TotalAlloc > 1<<20 {
			t.Fatal(size, e, to.TotalAlloc-from.TotalAlloc)
		}
	}
}

// P20.3: each count by itself: one more isn't covered, one less is; Last plays no part.
func TestCovers(t *testing.T) {
	r := rand.New(rand.NewPCG(20, 9))
	for _, x := range []Table{{}, full(16, 8), some(r, 16, 8), some(r, 16, 8), some(r, 3, 4)} {
		for _, last := range []uint64{0, 1, x.Last, math.MaxUint64} {
			y := x
			y.Last = last
			covers(t, x, y, true)
			covers(t, y, x, true)
			for _, c := range counts(&y) {
				was := *c
				for _, v := range []uint32{0, 1, was / 2, was - 1, was + 1, was ^ 1<<31, top} {
					*c = v
					covers(t, x, y, v <= was)
					covers(t, y, x, v >= was)
				}
				*c = was
			}
		}
	}
}

// P20.3: counts that are less in one place don't make up for those that are more in another.
func TestCoversAny(t *testing.T) {
	r := rand.New(rand.NewPCG(20, 10))
	covers(t, full(16, 8), Table{}, true)
	covers(t, Table{}, full(16, 8), false)
	seen := map[bool]int{}
	for range 20000 {
		x := some(r, 16, 8)
		y := x
		y.Last = r.Uint64()
		want := true
		less, more := counts(&x), counts(&y)
		for range r.IntN(5) {
			at := r.IntN(len(less))
			*more[at] = random(r)
		}
		for i := range less {
			want = want && *more[i] <= *less[i]
		}
		covers(t, x, y, want)
		seen[want]++
	}
	if seen[true] < 1000 || seen[false] < 1000 {
		t.Fatal("the test's own:", seen)
	}
	swapped, x := Table{}, Table{}
	x.Rows[0], swapped.Rows[1] = Row{5}, Row{1}
	covers(t, x, swapped, false)
	x.Rows[0], swapped.Rows[1] = Row{}, Row{}
	x.Global, swapped.Global = Row{1, 0}, Row{0, 1}
	covers(t, x, swapped, false)
}

// P20.3: all counts of a row together, beyond 32 bits, too.
func TestSum(t *testing.T) {
	r := rand.New(rand.NewPCG(20, 11))
	l := []Row{{}, full(1, 8).Global, {1, 2, 3, 4, 5, 6, 7, 8}, {top, 1}, {1 << 31, 1 << 31}}
	for class := range 8 {
		for _, v := range []uint32{1, 255, 1 << 31, top} {
			var x Row
			x[class] = v
			l = append(l, x)
		}
	}
	for range 1000 {
		l = append(l, some(r, 1, 8).Global)
	}
	for _, x := range l {
		was, want := x, new(big.Int)
		for _, c := range x {
			want.Add(want, big.NewInt(int64(c)))
		}
		if sum := x.Sum(); sum != want.Uint64() || x != was {
			t.Fatal(x, sum, want)
		}
	}
	if sum := full(1, 8).Global.Sum(); sum != 8*top {
		t.Fatal(sum)
	}
}

// P20.4: tables that are made from the zero one by any calls, wrong ones, too, are balanced; what is used more covers what was.
func TestStories(t *testing.T) {
	r := rand.New(rand.NewPCG(20, 12))
	for range 200 {
		var x Table
		var book Table // what was done, written down by itself
		m, n := 1+r.IntN(16), 1+r.IntN(8)
		for range r.IntN(200) {
			was := x
			switch r.IntN(6) {
			case 0:
				round := random(r)
				x, _ = x.Seen(uint64(round))
				book.Last = max(book.Last, uint64(round))
			case 1:
				x = adds(t, x, wrongContacts[r.IntN(len(wrongContacts))], r.IntN(n), api.ErrName)
				x = adds(t, x, r.IntN(m), wrongClasses[r.IntN(len(wrongClasses))], api.ErrClass)
			case 2:
				s, e := x.Encode(m, n)
				if e != api.OK || s != laid(x, m, n) {
					t.Fatalf("%v.Encode(%d, %d): %q %v", x, m, n, s, e)
				}
				if x, e = Decode(s, m, n); e != api.OK {
					t.Fatalf("%v, encoded by %d and %d, isn't decoded: %v", was, m, n, e)
				}
			default:
				contact, class := r.IntN(m), r.IntN(n)
				x = adds(t, x, contact, class, api.OK)
				book.Rows[contact][class]++
				book.Global[class]++
			}
			if x != book {
				t.Fatalf("%v, not %v", x, book)
			}
			balanced(t, x)
			covers(t, x, was, true)
			covers(t, was, x, x.Global.Sum() == was.Global.Sum())
		}
	}
}

// P20.4: where a class is full in all, it stays balanced, as nobody has one more of it.
func TestFullStory(t *testing.T) {
	// Decode stands for the many calls of Add that lead here.
	var x Table
	x.Global[0], x.Rows[0][0], x.Rows[1][0] = top-1, 1<<31, 1<<31-2
	x, e := Decode(laid(x, 2, 1), 2, 1)
	if e != api.OK {
		t.Fatal(e)
	}
	x = adds(t, x, 1, 0, api.OK)
	for contact := range 16 {
		x = adds(t, x, contact, 0, api.ErrFull)
		balanced(t, x)
		balanced(t, adds(t, x, contact, 1, api.OK))
	}
}
