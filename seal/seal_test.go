package seal

import (
	"encoding/binary"
	"hash/crc32"
	"math"
	"math/rand/v2"
	"strings"
	"testing"

	"chaff/api"
)

// The tests hold sums against the library's CRC, which reckons by tables, and sectors against bytes laid by the library's numbers; the program itself does neither.

// laid is a sector by its chapter, of whatever is told to be in it: how many bytes Data has, and all that is behind that number.
func laid(kind uint8, gen uint64, index uint32, long uint8, rest string) string {
	out := make([]byte, 128)
	out[0] = kind
	binary.BigEndian.PutUint64(out[1:], gen)
	binary.BigEndian.PutUint32(out[9:], index)
	out[13] = long
	copy(out[14:124], rest)
	binary.LittleEndian.PutUint32(out[124:], crc32.ChecksumIEEE(out[:124]))
	return string(out)
}

// some is a text of any bytes.
func some(r *rand.Rand, n int) string {
	out := make([]byte, n)
	for i := range out {
		out[i] = byte(r.Uint32())
	}
	return string(out)
}

// anyRecord is a record of so many bytes of Data.
func anyRecord(r *rand.Rand, n int) Record {
	return Record{Kind: uint8(r.Uint32()), Gen: r.Uint64() >> r.IntN(64), Index: r.Uint32() >> r.IntN(32), Data: some(r, n)}
}

// closed is a record's sector.
func closed(t *testing.T, r Record) string {
	t.Helper()
	s, e := Close(r)
	if e != api.OK {
		t.Fatal(r, e)
	}
	return s
}

// fails looks whether a text is opened with an error, and nothing beside it.
func fails(t *testing.T, s string, want api.Errno) {
	t.Helper()
	if r, e := Open(s); e != want || r != (Record{}) {
		t.Fatalf("%q: %v %v, not %v", s, r, e, want)
	}
}

// turned is a text of which the bits of one byte are turned.
func turned(s string, at int, by byte) string {
	return s[:at] + string([]byte{s[at] ^ by}) + s[at+1:]
}

// P13.1: the sum of any bytes.
func TestSum(t *testing.T) {
	if n := Sum("123456789"); n != 0xcbf43926 {
		t.Fatal(n)
	}
	if n := Sum(""); n != 0 {
		t.Fatal(n)
	}
	for b := range 256 {
		if s := string([]byte{byte(b)}); Sum(s) != crc32.ChecksumIEEE([]byte(s)) {
			t.Fatal(b, Sum(s))
		}
	}
	r := rand.New(rand.NewPCG(13, 1))
	for n := range 400 {
		s := some(r, n)
		if Sum(s) != crc32.ChecksumIEEE([]byte(s)) {
			t.Fatal(n, Sum(s))
		}
	}
	for _, s := range []string{strings.Repeat("\x00", 124), strings.Repeat("\xff", 124), some(r, 1<<20), "é\x00ü"} {
		if Sum(s) != crc32.ChecksumIEEE([]byte(s)) {
			t.Fatal(len(s), Sum(s))
		}
	}
}

// P13.1: a record's sector, byte by byte.
func TestClose(t *testing.T) {
	r := rand.New(rand.NewPCG(13, 2))
	cases := []Record{
		{},
		{Kind: 1},
		{Gen: 1},
		{Index: 1},
		{Data: "\x00"},
		{Kind: 255, Gen: math.MaxUint64, Index: math.MaxUint32, Data: strings.Repeat("\xff", Most)},
		{Kind: 1, Gen: 0x0203040506070809, Index: 0x0a0b0c0d, Data: "\x0f\x10"},
		{Gen: 1 << 63, Index: 1 << 31, Data: strings.Repeat("\x00", Most)},
	}
	for n := range Most + 1 {
		cases = append(cases, anyRecord(r, n))
	}
	for _, x := range cases {
		want := laid(x.Kind, x.Gen, x.Index, uint8(len(x.Data)), x.Data)
		if s := closed(t, x); s != want {
			t.Fatalf("%v: %q, not %q", x, s, want)
		}
	}
	if s := closed(t, Record{Kind: 1, Gen: 0x0203040506070809, Index: 0x0a0b0c0d, Data: "\x0f\x10"}); s[:17] != "\x01\x02\x03\x04\x05\x06\x07\x08\x09\x0a\x0b\x0c\x0d\x02\x0f\x10\x00" {
		t.Fatalf("%q", s)
	}
}

// P13.1: Data of 110 bytes is closed, of one more it isn't, and nothing is beside the error.
func TestCloseLong(t *testing.T) {
	if Most != 110 {
		t.Fatal(Most)
	}
	closed(t, Record{Data: strings.Repeat("x", 110)})
	for _, n := range []int{111, 112, 114, 255, 256, 257, 366, 1 << 16} {
		for _, c := range []string{"x", "\x00"} {
			if s, e := Close(Record{Kind: 1, Gen: 1, Index: 1, Data: strings.Repeat(c, n)}); s != "" || e != api.ErrLong {
				t.Fatal(n, len(s), e)
			}
		}
	}
}

// P13.1: which texts aren't opened, and by which error; of several the first.
func TestOpenWrong(t *testing.T) {
	right := closed(t, Record{Kind: 1, Gen: 2, Index: 3, Data: "abc"})
	noughts := strings.Repeat("\x00", 300)
	for _, n := range []int{0, 1, 13, 14, 123, 124, 127, 129, 256, 300} {
		fails(t, noughts[:n], api.ErrForm)
		fails(t, (right + right + right)[:n], api.ErrForm)
	}
	fails(t, noughts[:128], api.ErrNone)
	fails(t, strings.Repeat("\xff", 128), api.ErrRot)
	fails(t, noughts[:127]+"\x01", api.ErrRot)
	fails(t, "\x01"+noughts[:127], api.ErrRot)
	fails(t, right[:124]+"\x00\x00\x00\x00", api.ErrRot)
	fails(t, right[:124]+string([]byte{right[127], right[126], right[125], right[124]}), api.ErrRot)
	for long := Most + 1; long < 256; long++ {
		s := laid(1, 2, 3, uint8(long), strings.Repeat("x", 110))
		fails(t, s, api.ErrForm)
		fails(t, turned(s, 124, 1), api.ErrRot)
		fails(t, laid(0, 0, 0, uint8(long), ""), api.ErrForm)
	}
}

// P13.1: no byte behind Data is other than 0, wherever it stands.
func TestOpenBehind(t *testing.T) {
	for long := range Most {
		for at := long; at < Most; at++ {
			rest := turned(strings.Repeat("x", long)+strings.Repeat("\x00", Most-long), at, byte(1+at))
			s := laid(1, 2, 3, uint8(long), rest)
			fails(t, s, api.ErrForm)
			fails(t, turned(s, 127, 128), api.ErrRot)
		}
	}
}

// P13.2: what is closed is opened as it was.
func TestOpensAsItWas(t *testing.T) {
	r := rand.New(rand.NewPCG(13, 3))
	cases := []Record{
		{},
		{Data: "\x00"},
		{Data: "a\x00\x00"},
		{Kind: 255, Gen: math.MaxUint64, Index: math.MaxUint32, Data: strings.Repeat("\xff", Most)},
		{Gen: 1 << 63, Index: 1 << 31, Data: strings.Repeat("\x00", Most)},
	}
	for n := range Most + 1 {
		for range 5 {
			cases = append(cases, anyRecord(r, n))
		}
	}
	for bit := range 64 {
		cases = append(cases, Record{Kind: 1 << (bit % 8), Gen: 1 << bit, Index: 1 << (bit % 32), Data: "x"})
	}
	for _, x := range cases {
		if y, e := Open(closed(t, x)); y != x || e != api.OK {
			t.Fatal(x, y, e)
		}
	}
}

// P13.2: a sector of which one byte was turned, any byte by any bits, is ErrRot.
func TestTurned(t *testing.T) {
	r := rand.New(rand.NewPCG(13, 4))
	cases := []Record{{}, {Kind: 1, Gen: 1, Data: "a"}, anyRecord(r, 55), anyRecord(r, Most)}
	for _, x := range cases {
		s := closed(t, x)
		for at := range 128 {
			for by := 1; by < 256; by++ {
				fails(t, turned(s, at, byte(by)), api.ErrRot)
			}
		}
	}
}

// P13.2: no turned sector is all 0: each has at least two bytes that aren't, of the records too that have next to nothing in them.
func TestTurnedNotBlank(t *testing.T) {
	look := func(s string) {
		t.Helper()
		if n := strings.Count(s, "\x00"); n > 126 {
			t.Fatalf("%q", s)
		}
	}
	look(closed(t, Record{}))
	for n := 1; n <= Most; n++ {
		look(closed(t, Record{Data: strings.Repeat("\x00", n)}))
	}
	for b := range 256 {
		look(closed(t, Record{Kind: uint8(b)}))
		for i := range 8 {
			look(closed(t, Record{Gen: uint64(b) << (8 * i)}))
			look(closed(t, Record{Index: uint32(b) << (8 * (i % 4))}))
		}
	}
}

// P13.2: of any 124 bytes with a right sum behind only those are opened that Close makes.
func TestOnlyClosed(t *testing.T) {
	r := rand.New(rand.NewPCG(13, 5))
	opened := 0
	for range 20000 {
		long := r.IntN(256)
		rest := some(r, r.IntN(Most+1))
		s := laid(uint8(r.Uint32()), r.Uint64(), r.Uint32(), uint8(long), rest)
		if r.IntN(8) == 0 {
			s = some(r, 128)
		}
		x, e := Open(s)
		if e != api.OK {
			fails(t, s, e)
			continue
		}
		opened++
		if again := closed(t, x); again != s {
			t.Fatalf("%q is opened, but not closed so", s)
		}
	}
	if opened < 1000 {
		t.Fatal(opened)
	}
}
