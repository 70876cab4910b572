package octet

import (
	"encoding/binary"
	"math"
	"math/big"
	"math/rand/v2"
	"strings"
	"testing"
	"unsafe"

	"chaff/api"
)

// The tests hold bytes against those that the library lays, by math/big and encoding/binary, which the program itself may not call.

// laid are a number's n bytes, and whether it has no more.
func laid(v uint64, n int) (string, bool) {
	b := new(big.Int).SetUint64(v)
	if b.BitLen() > 8*n {
		return "", false
	}
	return string(b.FillBytes(make([]byte, n))), true
}

// text are a short text's bytes.
func text(t string) string {
	return string(binary.BigEndian.AppendUint16(nil, uint16(len(t)))) + t
}

// some is a text of any bytes.
func some(r *rand.Rand, n int) string {
	out := make([]byte, n)
	for i := range out {
		out[i] = byte(r.Uint32())
	}
	return string(out)
}

// numbers are those about which the bytes end, and some between.
func numbers() []uint64 {
	out := []uint64{0x0102030405060708, 0xf1e2d3c4b5a69788, 12345678901234567890, 65535 << 20}
	for bit := range 64 {
		out = append(out, 1<<bit-1, 1<<bit, 1<<bit+1)
	}
	return append(out, math.MaxUint64-1, math.MaxUint64)
}

// tails is what stands behind.
func tails() []string {
	return []string{"", "\x00", "\xff", "x", "\x00\x00", "\x00\x01", strings.Repeat("\x00", 70000), strings.Repeat("\xff", 70000)}
}

// wrongWidths are no n of a number.
var wrongWidths = []int{math.MinInt, -1 << 32, -256, -8, -2, -1, 0, 9, 10, 16, 64, 256, 257, 1 << 32, 1<<32 + 1, math.MaxInt}

// wrongMosts are no most of a short text.
var wrongMosts = []int{math.MinInt, -1 << 32, -65536, -1, 65536, 65537, 1 << 17, 1 << 32, 1<<32 + 1, math.MaxInt}

// puts looks whether a number has these bytes.
func puts(t *testing.T, v uint64, n int, want string) {
	t.Helper()
	if s, e := Put(v, n); s != want || e != api.OK {
		t.Fatalf("Put(%d, %d): %q %v, not %q", v, n, s, e, want)
	}
}

// noPut looks whether a number isn't put, and nothing is beside the error.
func noPut(t *testing.T, v uint64, n int) {
	t.Helper()
	if s, e := Put(v, n); s != "" || e != api.ErrRange {
		t.Fatalf("Put(%d, %d): %q %v", v, n, s, e)
	}
}

// takes looks whether this number is taken, and this left.
func takes(t *testing.T, s string, n int, v uint64, rest string) {
	t.Helper()
	if w, r, e := Take(s, n); w != v || r != rest || e != api.OK {
		t.Fatalf("Take(%.20q, %d): %d %.20q %v, not %d %.20q", s, n, w, r, e, v, rest)
	}
}

// noTake looks whether no number is taken, and nothing is beside the error.
func noTake(t *testing.T, s string, n int, want api.Errno) {
	t.Helper()
	if v, r, e := Take(s, n); v != 0 || r != "" || e != want {
		t.Fatalf("Take(%.20q, %d): %d %.20q %v, not %v", s, n, v, r, e, want)
	}
}

// putsText looks whether a text's bytes are these.
func putsText(t *testing.T, what string, most int, want string) {
	t.Helper()
	if s, e := PutText(what, most); s != want || e != api.OK {
		t.Fatalf("PutText(%.20q, %d): %.20q %v, not %.20q", what, most, s, e, want)
	}
}

// noPutText looks whether a text isn't put, and nothing is beside the error.
func noPutText(t *testing.T, what string, most int, want api.Errno) {
	t.Helper()
	if s, e := PutText(what, most); s != "" || e != want {
		t.Fatalf("PutText(%.20q, %d): %.20q %v, not %v", what, most, s, e, want)
	}
}

// takesText looks whether this text is taken, and this left.
func takesText(t *testing.T, s string, most int, what, rest string) {
	t.Helper()
	if w, r, e := TakeText(s, most); w != what || r != rest || e != api.OK {
		t.Fatalf("TakeText(%.20q, %d): %.20q %.20q %v, not %.20q %.20q", s, most, w, r, e, what, rest)
	}
}

// noTakeText looks whether no text is taken, and nothing is beside the error.
func noTakeText(t *testing.T, s string, most int, want api.Errno) {
	t.Helper()
	if w, r, e := TakeText(s, most); w != "" || r != "" || e != want {
		t.Fatalf("TakeText(%.20q, %d): %.20q %.20q %v, not %v", s, most, w, r, e, want)
	}
}

func TestExamples(t *testing.T) {
	puts(t, 258, 2, "\x01\x02")
	putsText(t, "a", 9, "\x00\x01a")
}

// P17.1: each number that ends about a byte, by each n: its bytes, or ErrRange, if it has more.
func TestPut(t *testing.T) {
	for _, v := range numbers() {
		for n := 1; n <= 8; n++ {
			if want, ok := laid(v, n); ok {
				puts(t, v, n, want)
			} else {
				noPut(t, v, n)
			}
		}
	}
	puts(t, 0, 1, "\x00")
	puts(t, 0, 8, "\x00\x00\x00\x00\x00\x00\x00\x00")
	puts(t, 255, 1, "\xff")
	noPut(t, 256, 1)
	puts(t, 1<<56-1, 7, "\xff\xff\xff\xff\xff\xff\xff")
	noPut(t, 1<<56, 7)
	puts(t, 0x0102030405060708, 8, "\x01\x02\x03\x04\x05\x06\x07\x08")
	puts(t, math.MaxUint64, 8, "\xff\xff\xff\xff\xff\xff\xff\xff")
}

// P17.1: Put by an n that isn't from 1 to 8.
func TestPutWrongWidth(t *testing.T) {
	for _, n := range wrongWidths {
		for _, v := range []uint64{0, 1, 255, 256, 1 << 63, math.MaxUint64} {
			noPut(t, v, n)
		}
	}
}

// P17.1: each n of any bytes; of fewer it is ErrShort.
func TestTake(t *testing.T) {
	r := rand.New(rand.NewPCG(17, 1))
	for long := range 20 {
		for _, s := range []string{some(r, long), strings.Repeat("\x00", long), strings.Repeat("\xff", long), ("\x80\x00\x00\x00\x00\x00\x00\x01" + strings.Repeat("\x7f", 12))[:long]} {
			for n := 1; n <= 8; n++ {
				if n > long {
					noTake(t, s, n, api.ErrShort)
					continue
				}
				takes(t, s, n, new(big.Int).SetBytes([]byte(s[:n])).Uint64(), s[n:])
			}
		}
	}
	takes(t, "\x01\x02\x03", 2, 258, "\x03")
	takes(t, "\x01\x02\x03\x04\x05\x06\x07\x08", 8, 0x0102030405060708, "")
	noTake(t, "", 1, api.ErrShort)
	noTake(t, "\xff\xff\xff\xff\xff\xff\xff", 8, api.ErrShort)
}

// P17.1: Take by an n that isn't from 1 to 8: ErrRange, ahead of ErrShort.
func TestTakeWrongWidth(t *testing.T) {
	for _, n := range wrongWidths {
		for _, s := range []string{"", "\x00", "12345678", strings.Repeat("\xff", 300)} {
			noTake(t, s, n, api.ErrRange)
		}
	}
}

// P17.2: texts of all lengths about the edges, by the least most, by greater ones, and by one less.
func TestPutText(t *testing.T) {
	r := rand.New(rand.NewPCG(17, 2))
	for _, long := range []int{0, 1, 2, 3, 127, 128, 254, 255, 256, 257, 511, 512, 32767, 32768, 65279, 65280, 65534, 65535} {
		for _, what := range []string{some(r, long), strings.Repeat("\x00", long), strings.Repeat("\xff", long)} {
			for _, most := range []int{long, long + 1, 2*long + 9, 65534, 65535} {
				if most >= long && most <= 65535 {
					putsText(t, what, most, text(what))
				}
			}
			for _, most := range []int{long - 1, long / 2, long - 256, 0} {
				if most >= 0 && most < long {
					noPutText(t, what, most, api.ErrLong)
				}
			}
		}
	}
	putsText(t, "", 0, "\x00\x00")
	noPutText(t, "a", 0, api.ErrLong)
	putsText(t, "\x00\xffé", 4, "\x00\x04\x00\xff\xc3\xa9")
	noPutText(t, "\x00\xffé", 3, api.ErrLong)
	for _, long := range []int{65536, 65537, 1 << 17, 1 << 24} {
		for _, most := range []int{0, 1, 65534, 65535} {
			noPutText(t, strings.Repeat("x", long), most, api.ErrLong)
		}
	}
}

// P17.2: PutText by a most that isn't from 0 to 65535: ErrRange, ahead of ErrLong.
func TestPutTextWrongMost(t *testing.T) {
	for _, most := range wrongMosts {
		for _, long := range []int{0, 1, 65535, 65536, 70000} {
			noPutText(t, strings.Repeat("x", long), most, api.ErrRange)
		}
	}
}

// P17.2: short texts of all lengths about the edges, whatever is behind.
func TestTakeText(t *testing.T) {
	r := rand.New(rand.NewPCG(17, 3))
	for _, long := range []int{0, 1, 2, 3, 127, 128, 255, 256, 257, 32767, 32768, 65280, 65534, 65535} {
		what := some(r, long)
		for _, rest := range tails() {
			for _, most := range []int{long, long + 1, 65534, 65535} {
				if most >= long && most <= 65535 {
					takesText(t, text(what)+rest, most, what, rest)
				}
			}
			for _, most := range []int{long - 1, long / 2, long - 256, 0} {
				if most >= 0 && most < long {
					noTakeText(t, text(what)+rest, most, api.ErrLong)
				}
			}
		}
	}
	takesText(t, "\x00\x02abc", 2, "ab", "c")
	takesText(t, "\x00\x00abc", 0, "", "abc")
	takesText(t, "\x00\x00", 0, "", "")
}

// P17.2: TakeText's errors, of several the first.
func TestTakeTextWrong(t *testing.T) {
	for _, most := range wrongMosts {
		for _, s := range []string{"", "\x00", "\xff", "\x00\x00", "\x00\x01", "\x00\x01a", "\xff\xff", text(strings.Repeat("x", 65535)) + "y"} {
			noTakeText(t, s, most, api.ErrRange)
		}
	}
	for _, most := range []int{0, 1, 255, 256, 65535} {
		for _, s := range []string{"", "\x00", "\x01", "\xff"} {
			noTakeText(t, s, most, api.ErrShort)
		}
	}
	// The number is above most, and bytes are wanting: that they are is told behind it.
	noTakeText(t, "\x00\x09abc", 8, api.ErrLong)
	noTakeText(t, "\x00\x09abc", 9, api.ErrShort)
	noTakeText(t, "\x00\x01", 0, api.ErrLong)
	noTakeText(t, "\x00\x01", 1, api.ErrShort)
	noTakeText(t, "\xff\xff", 65534, api.ErrLong)
	noTakeText(t, "\xff\xff", 65535, api.ErrShort)
	noTakeText(t, "\x80\x00", 32767, api.ErrLong)
	// The highest byte is first.
	noTakeText(t, "\x01\x00a", 255, api.ErrLong)
	noTakeText(t, "\x01\x00a", 256, api.ErrShort)
	for _, long := range []int{1, 2, 255, 256, 300, 65535} {
		s := text(strings.Repeat("\x00", long))
		for _, wanting := range []int{1, 2, long/2 + 1, long} {
			noTakeText(t, s[:len(s)-min(wanting, long)], 65535, api.ErrShort)
		}
	}
}

// P17.2: whether something is left, be it noughts.
func TestEnd(t *testing.T) {
	if e := End(""); e != api.OK {
		t.Fatal(e)
	}
	for _, rest := range tails()[1:] {
		if e := End(rest); e != api.ErrLong {
			t.Fatalf("%.20q: %v", rest, e)
		}
	}
}

// P17.3: a number that is put is taken as it was, whatever is behind.
func TestNumbersAsTheyWere(t *testing.T) {
	for _, v := range numbers() {
		for n := 1; n <= 8; n++ {
			s, e := Put(v, n)
			if e != api.OK {
				continue
			}
			for _, rest := range tails() {
				takes(t, s+rest, n, v, rest)
			}
		}
	}
}

// P17.3: a text that is put is taken as it was, whatever is behind.
func TestTextsAsTheyWere(t *testing.T) {
	r := rand.New(rand.NewPCG(17, 4))
	for range 300 {
		long := r.IntN(1 << r.IntN(17))
		what, most := some(r, long), long+r.IntN(65536-long)
		s, e := PutText(what, most)
		if e != api.OK {
			t.Fatal(long, most, e)
		}
		for _, rest := range []string{"", text(what), some(r, 1+r.IntN(400))} {
			takesText(t, s+rest, most, what, rest)
		}
	}
}

// P17.3: what is taken of any bytes is put as it was.
func TestTakenIsPut(t *testing.T) {
	r := rand.New(rand.NewPCG(17, 5))
	for range 20000 {
		s := some(r, r.IntN(20))
		n, most := r.IntN(12)-1, r.IntN(20)
		if v, rest, e := Take(s, n); e == api.OK {
			puts(t, v, n, strings.TrimSuffix(s, rest))
		}
		if len(s) > 0 && r.IntN(4) > 0 {
			s = "\x00" + string(byte(r.IntN(20))) + s
		}
		if what, rest, e := TakeText(s, most); e == api.OK {
			putsText(t, what, most, strings.TrimSuffix(s, rest))
		}
	}
}

// part is a number of so many bytes, or, if n is 0, a text.
type part struct {
	n    int
	v    uint64
	text string
}

// P17.3: numbers and texts, one put behind the other, are taken one behind the other, and nothing is left.
func TestRows(t *testing.T) {
	r := rand.New(rand.NewPCG(17, 6))
	for range 500 {
		var parts []part
		all := ""
		for range r.IntN(30) {
			p := part{n: r.IntN(9)}
			var s string
			var e api.Errno
			if p.n == 0 {
				p.text = some(r, r.IntN(300))
				s, e = PutText(p.text, 300)
			} else {
				p.v = r.Uint64() >> (64 - 8*p.n)
				s, e = Put(p.v, p.n)
			}
			if e != api.OK {
				t.Fatalf("%d %d %.20q: %v", p.n, p.v, p.text, e)
			}
			parts, all = append(parts, p), all+s
		}
		for i, p := range parts {
			if End(all) != api.ErrLong {
				t.Fatal("nothing is left")
			}
			var e api.Errno
			got := part{n: p.n}
			if p.n == 0 {
				got.text, all, e = TakeText(all, 300)
			} else {
				got.v, all, e = Take(all, p.n)
			}
			if got != p || e != api.OK {
				t.Fatalf("%d: %d %d %.20q %v, not %d %.20q", i, p.n, got.v, got.text, e, p.v, p.text)
			}
		}
		if e := End(all); e != api.OK {
			t.Fatal(e)
		}
	}
}

// within tells whether a text shares memory with another one.
func within(part, all string) bool {
	at, from := uintptr(unsafe.Pointer(unsafe.StringData(part))), uintptr(unsafe.Pointer(unsafe.StringData(all)))
	return part != "" && all != "" && at < from+uintptr(len(all)) && from < at+uintptr(len(part))
}

// R3: what is handed out is new memory.
func TestNewMemory(t *testing.T) {
	s := text("abc") + "behind"
	if !within(s[4:], s) {
		t.Fatal("a piece isn't told from a copy")
	}
	_, rest, e := Take(s, 2)
	if e != api.OK || within(rest, s) {
		t.Fatal("what is behind a number", e)
	}
	what, rest, e := TakeText(s, 3)
	if e != api.OK || within(what, s) || within(rest, s) || within(what, rest) {
		t.Fatal("a text, or what is behind", e)
	}
	for _, what := range []string{"abc", strings.Repeat("x", 65535)} {
		if put, e := PutText(what, len(what)); e != api.OK || within(put, what) {
			t.Fatal("what is put", e)
		}
	}
}
