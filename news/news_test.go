package news

import (
	"bytes"
	"encoding/binary"
	"math"
	"math/rand/v2"
	"runtime"
	"slices"
	"strings"
	"testing"

	"chaff/api"
)

// The tests lay and read bytes by encoding/binary, which the program itself may not call.

const top = math.MaxUint32

// laidRound are a round's bytes.
func laidRound(r Round) string {
	b := binary.BigEndian.AppendUint64([]byte("R"), r.Number)
	return string(append(binary.BigEndian.AppendUint32(b, r.Epoch), r.Class))
}

// laidReport are a report's bytes, be it one that may be or not, with this number of rows.
func laidReport(r Report, many uint16) string {
	b := binary.BigEndian.AppendUint32([]byte("H"), r.Epoch)
	b = binary.BigEndian.AppendUint16(b, many)
	for _, row := range r.Rows {
		b = binary.BigEndian.AppendUint32(b, row.Value)
		b = binary.BigEndian.AppendUint32(b, row.Times)
	}
	return string(b)
}

// right are a report's bytes with its own number of rows.
func right(r Report) string { return laidReport(r, uint16(len(r.Rows))) }

// may tells what the chapter says of a report, word by word.
func may(r Report) bool {
	if len(r.Rows) < 1 || len(r.Rows) > 256 {
		return false
	}
	for i, row := range r.Rows {
		if row.Times < 1 {
			return false
		}
		for _, below := range r.Rows[:i] {
			if row.Value <= below.Value {
				return false
			}
		}
	}
	return true
}

// toldRound is the round of bytes, as the chapter tells it.
func toldRound(s string) (Round, api.Errno) {
	switch {
	case s == "":
		return Round{}, api.ErrShort
	case s[0] != 'R':
		return Round{}, api.ErrForm
	case len(s) < 14:
		return Round{}, api.ErrShort
	case len(s) > 14:
		return Round{}, api.ErrLong
	}
	var r Round
	binary.Read(strings.NewReader(s[1:]), binary.BigEndian, &r)
	return r, api.OK
}

// toldReport is the report of bytes, as the chapter tells it.
func toldReport(s string) (Report, api.Errno) {
	switch {
	case s == "":
		return Report{}, api.ErrShort
	case s[0] != 'H':
		return Report{}, api.ErrForm
	}
	in := bytes.NewReader([]byte(s[1:]))
	var head struct {
		Epoch uint32
		Many  uint16
	}
	if binary.Read(in, binary.BigEndian, &head) != nil {
		return Report{}, api.ErrShort
	}
	r := Report{Epoch: head.Epoch, Rows: make([]Row, head.Many)}
	if binary.Read(in, binary.BigEndian, r.Rows) != nil {
		return Report{}, api.ErrShort
	}
	switch {
	case in.Len() > 0:
		return Report{}, api.ErrLong
	case !may(r):
		return Report{}, api.ErrForm
	}
	return r, api.OK
}

// same tells whether two reports are alike; nil rows and none are one.
func same(a, b Report) bool { return a.Epoch == b.Epoch && slices.Equal(a.Rows, b.Rows) }

// opensRound looks whether bytes have this round, or this error, beside which it is zero; and, P19.2, whether it is closed as it was.
func opensRound(t *testing.T, s string, want Round, fault api.Errno) {
	t.Helper()
	r, e := OpenRound(s)
	if r != want || e != fault {
		t.Fatalf("OpenRound(%.40q): %+v %v, not %+v %v", s, r, e, want, fault)
	}
	if again := CloseRound(r); e == api.OK && again != s {
		t.Fatalf("%.40q: opened, it is closed as %.40q", s, again)
	}
}

// opensReport looks whether bytes have this report, or this error, beside which it is zero; and, P19.2, whether it is closed as it was.
func opensReport(t *testing.T, s string, want Report, fault api.Errno) {
	t.Helper()
	r, e := OpenReport(s)
	if !same(r, want) || e != fault {
		t.Fatalf("OpenReport(%.40q): %+v %v, not %+v %v", s, r, e, want, fault)
	}
	if e != api.OK {
		return
	}
	if again, e := CloseReport(r); again != s || e != api.OK {
		t.Fatalf("%.40q: opened, it is closed as %.40q %v", s, again, e)
	}
}

// wrong looks whether bytes are no report, by this error.
func wrong(t *testing.T, s string, fault api.Errno) {
	t.Helper()
	opensReport(t, s, Report{}, fault)
}

// closes looks whether a report is closed as the chapter tells, and, P19.2, opened as it was.
func closes(t *testing.T, r Report) {
	t.Helper()
	s, e := CloseReport(r)
	if e != api.OK || s != right(r) {
		t.Fatalf("CloseReport(%+v): %.60q %v", r, s, e)
	}
	opensReport(t, s, r, api.OK)
}

// noClose looks whether a report isn't closed, and nothing is beside the error; and whether its bytes aren't opened.
func noClose(t *testing.T, r Report) {
	t.Helper()
	if s, e := CloseReport(r); s != "" || e != api.ErrForm {
		t.Fatalf("CloseReport of %d rows: %.60q %v", len(r.Rows), s, e)
	}
	if len(r.Rows) <= math.MaxUint16 {
		wrong(t, right(r), api.ErrForm)
	}
}

// rows are n rows whose values rise from one on, by steps of one size.
func rows(n int, from, step uint32) []Row {
	out := make([]Row, n)
	for i := range out {
		out[i] = Row{from + uint32(i)*step, uint32(i + 1)}
	}
	return out
}

// random is a number of 32 bits, of all sizes.
func random(r *rand.Rand) uint32 { return r.Uint32() >> r.IntN(32) }

// some is a random report that may be, of at most so many rows.
func some(r *rand.Rand, most int) Report {
	out := Report{Epoch: random(r)}
	at := random(r) >> 2
	for range 1 + r.IntN(most) {
		out.Rows = append(out.Rows, Row{at, max(1, random(r))})
		at += 1 + random(r)>>10
	}
	return out
}

// reports are some that come to the ends of what is allowed.
func reports() []Report {
	return []Report{
		{0, []Row{{0, 1}}},
		{top, []Row{{top, top}}},
		{7, []Row{{1, 2}, {3, 4}}},
		{0x01020304, []Row{{0, top}, {1, 1}, {top - 1, 5}, {top, 1}}},
		{1 << 31, []Row{{1<<31 - 1, 1}, {1 << 31, 1 << 31}, {1<<31 + 1, 255}}},
		{256, rows(2, 255, 1)},
		{3, rows(255, 0, 1)},
		{4, rows(256, 0, 1)},
		{5, rows(256, 255, 1<<24-1)},
		{6, rows(256, top-255, 1)},
	}
}

// P19.1: each byte of a round and of a report, written out.
func TestBytes(t *testing.T) {
	opensRound(t, "R\x00\x00\x00\x00\x00\x00\x00\x01\x00\x00\x00\x02\x03", Round{1, 2, 3}, api.OK) // the chapter's example
	opensRound(t, "R\x01\x02\x03\x04\x05\x06\x07\x08\xf1\xf2\xf3\xf4\xff", Round{0x0102030405060708, 0xf1f2f3f4, 255}, api.OK)
	opensRound(t, "R"+strings.Repeat("\x00", 13), Round{}, api.OK)
	opensRound(t, "R"+strings.Repeat("\xff", 13), Round{math.MaxUint64, top, 255}, api.OK)
	opensReport(t, "H\x01\x02\x03\x04\x00\x02\x00\x00\x00\x00\xf5\xf6\xf7\xf8\x80\x00\x00\x01\x00\x00\x00\x01", Report{0x01020304, []Row{{0, 0xf5f6f7f8}, {0x80000001, 1}}}, api.OK)
	opensReport(t, "H\xff\xff\xff\xff\x00\x01"+strings.Repeat("\xff", 8), Report{top, []Row{{top, top}}}, api.OK)
}

// P19.1, P19.2: rounds of all kinds are closed as the chapter tells, and opened as they were; what is cut is wanting, what is behind is left.
func TestRounds(t *testing.T) {
	r := rand.New(rand.NewPCG(19, 1))
	l := []Round{{}, {1, 2, 3}, {258, 3, 4}, {math.MaxUint64, top, 255}, {1 << 63, 1 << 31, 128}, {255, 256, 7}, {1 << 32, 65536, 8}}
	for range 2000 {
		l = append(l, Round{r.Uint64() >> r.IntN(64), random(r), uint8(r.Uint32())})
	}
	for _, x := range l {
		s := CloseRound(x)
		if s != laidRound(x) {
			t.Fatalf("CloseRound(%+v): %q", x, s)
		}
		opensRound(t, s, x, api.OK)
		for n := range len(s) {
			opensRound(t, s[:n], Round{}, api.ErrShort)
		}
		for _, rest := range []string{"\x00", "\xff", "R", s, "\x00\x00\x00\x00\x00\x00\x00\x00"} {
			opensRound(t, s+rest, Round{}, api.ErrLong)
		}
	}
}

// P19.1: the first byte is looked at ahead of how many there are.
func TestFirstByte(t *testing.T) {
	round, report := laidRound(Round{1, 2, 3}), right(Report{7, rows(2, 1, 2)})
	opensRound(t, "", Round{}, api.ErrShort)
	wrong(t, "", api.ErrShort)
	for b := range 256 {
		first := string([]byte{byte(b)})
		for _, behind := range []string{"", "R", "H", "\x00", round[1:], report[1:], round[1:] + "\x00", report[1:] + "\x00", report[1 : len(report)-1], "\x00\x00\x00\x00\x00\x00", round, report} {
			want, fault := toldRound(first + behind)
			if b != 'R' && fault != api.ErrForm {
				t.Fatal("the test's own", b, fault)
			}
			opensRound(t, first+behind, want, fault)
			told, fault := toldReport(first + behind)
			if b != 'H' && fault != api.ErrForm {
				t.Fatal("the test's own", b, fault)
			}
			opensReport(t, first+behind, told, fault)
		}
	}
	opensRound(t, report, Round{}, api.ErrForm)
	wrong(t, round, api.ErrForm)
}

// P19.1, P19.2: reports of all kinds are closed as the chapter tells, and opened as they were.
func TestReports(t *testing.T) {
	r := rand.New(rand.NewPCG(19, 2))
	for _, x := range reports() {
		closes(t, x)
	}
	for range 1000 {
		closes(t, some(r, 1+r.IntN(256)))
	}
	for n := 1; n <= 256; n++ {
		closes(t, Report{uint32(n), rows(n, 0, 1)})
	}
}

// P19.1: from 1 to 256 rows; of others a report may not be, be it of so many that two bytes don't tell them.
func TestHowManyRows(t *testing.T) {
	noClose(t, Report{})
	noClose(t, Report{1, []Row{}})
	for _, n := range []int{257, 258, 300, 511, 512, 513, 65535, 65536, 65537, 65536 + 256, 1 << 17, 1 << 20} {
		noClose(t, Report{1, rows(n, 0, 1)})
	}
	wrong(t, "H\x00\x00\x00\x01\x00\x00", api.ErrForm)
	wrong(t, "H\x00\x00\x00\x01\x00\x00\x00", api.ErrLong)
	wrong(t, "H\x00\x00\x00\x01\x00", api.ErrShort)
}

// P19.1: each value is met at least once.
func TestTimes(t *testing.T) {
	for _, n := range []int{1, 2, 3, 17, 255, 256} {
		for i := range n {
			r := Report{9, rows(n, 5, 3)}
			r.Rows[i].Times = 0
			noClose(t, r)
			r.Rows[i].Times = 1
			closes(t, r)
			r.Rows[i].Times = top
			closes(t, r)
		}
	}
}

// P19.1: values rise, no two alike.
func TestValues(t *testing.T) {
	for _, n := range []int{2, 3, 17, 255, 256} {
		for i := 1; i < n; i++ {
			r := Report{9, rows(n, 5, 3)}
			was := r.Rows[i].Value
			for _, v := range []uint32{r.Rows[i-1].Value, r.Rows[i-1].Value - 1, r.Rows[0].Value, 0} {
				r.Rows[i].Value = v
				noClose(t, r)
			}
			r.Rows[i].Value = r.Rows[i-1].Value + 1
			closes(t, r)
			r.Rows[i].Value = was
			r.Rows[i-1], r.Rows[i] = r.Rows[i], r.Rows[i-1]
			noClose(t, r)
		}
	}
	// Values are held against each other as they are, not by what lies between.
	noClose(t, Report{1, []Row{{top, 1}, {0, 1}}})
	noClose(t, Report{1, []Row{{1 << 31, 1}, {1, 1}}})
	closes(t, Report{1, []Row{{0, 1}, {1 << 31, 1}, {top, 1}}})
}

// P19.1: bytes that are cut are wanting, wherever, and those behind are left; both ahead of whether the report may be.
func TestShortAndLong(t *testing.T) {
	bad := []Report{{1, []Row{{5, 0}}}, {2, []Row{{5, 1}, {5, 1}, {4, 1}}}, {3, rows(257, 0, 1)}, {4, rows(700, 0, 0)}}
	for _, r := range append(reports(), bad...) {
		s := right(r)
		for n := range len(s) {
			wrong(t, s[:n], api.ErrShort)
		}
		for _, rest := range []string{"\x00", "\xff", "H", "12345678", s, strings.Repeat("\x00", 70000)} {
			wrong(t, s+rest, api.ErrLong)
		}
	}
}

// P19.1: more rows are told than there are, or fewer.
func TestRowsTold(t *testing.T) {
	for _, r := range []Report{{}, {7, rows(2, 1, 2)}, {8, rows(256, 0, 1)}, {9, rows(257, 0, 1)}} {
		for _, many := range []int{0, 1, 2, 3, 254, 255, 256, 257, 258, 512, 513, 32768, 65534, 65535} {
			s := laidReport(r, uint16(many))
			want, fault := toldReport(s)
			if fault != toldFault(r, many) {
				t.Fatal("the test's own", many, fault)
			}
			opensReport(t, s, want, fault)
		}
	}
}

// toldFault is what comes of a report with this number of rows in its bytes, which is told of the numbers alone.
func toldFault(r Report, many int) api.Errno {
	switch {
	case many > len(r.Rows):
		return api.ErrShort
	case many < len(r.Rows):
		return api.ErrLong
	case many < 1 || many > 256:
		return api.ErrForm
	}
	return api.OK
}

// P19.1: each byte of a report, turned into each other one.
func TestEachByte(t *testing.T) {
	for _, r := range reports()[:6] {
		s := []byte(right(r))
		for i, was := range s {
			for b := range 256 {
				s[i] = byte(b)
				want, fault := toldReport(string(s))
				opensReport(t, string(s), want, fault)
			}
			s[i] = was
		}
	}
	s := []byte(laidRound(Round{1, 2, 3}))
	for i, was := range s {
		for b := range 256 {
			s[i] = byte(b)
			want, fault := toldRound(string(s))
			opensRound(t, string(s), want, fault)
		}
		s[i] = was
	}
}

// P19.1, P19.2: bytes of which some are changed, taken away or put in.
func TestAnyBytes(t *testing.T) {
	r := rand.New(rand.NewPCG(19, 3))
	seen := map[api.Errno]int{}
	for range 30000 {
		s := right(some(r, 4))
		for range r.IntN(3) {
			at := r.IntN(len(s))
			switch r.IntN(3) {
			case 0:
				s = s[:at] + string([]byte{byte(r.IntN(256))}) + s[at+1:]
			case 1:
				s = s[:at] + s[at+1:]
			case 2:
				s = s[:at] + string([]byte{byte(r.IntN(3))}) + s[at:]
			}
		}
		want, fault := toldReport(s)
		opensReport(t, s, want, fault)
		seen[fault]++
		round, fault := toldRound("R" + s)
		opensRound(t, "R"+s, round, fault)
	}
	for _, e := range []api.Errno{api.OK, api.ErrForm, api.ErrShort, api.ErrLong} {
		if seen[e] < 300 {
			t.Fatal("the test's own: too few come to", e, seen[e])
		}
	}
}

// P19.1: what is behind isn't copied for each number, so that very long bytes end, too (R1).
func TestVeryLong(t *testing.T) {
	behind := strings.Repeat("\x00", 1<<24)
	for _, r := range []Report{{7, rows(256, 0, 1)}, {7, rows(65535, 0, 1)}, {}} {
		s := right(r) + behind
		var from, to runtime.MemStats
		runtime.ReadMemStats(&from)
		_, e := OpenReport(s)
		runtime.ReadMemStats(&to)
		if e != api.ErrLong || to.TotalAlloc-from.TotalAlloc > 1<<20 {
			t.Fatal(len(r.Rows), e, to.TotalAlloc-from.TotalAlloc)
		}
	}
	opensRound(t, "R"+behind, Round{}, api.ErrLong)
	opensRound(t, behind, Round{}, api.ErrForm)
	wrong(t, behind, api.ErrForm)
}

// R3: what is handed in isn't changed, nor the room behind its end, and isn't kept; what is handed out is new.
func TestNewMemory(t *testing.T) {
	all := rows(4, 1, 2)
	was := slices.Clone(all)
	s, _ := CloseReport(Report{7, all[:2]})
	if !slices.Equal(all, was) {
		t.Fatal(all)
	}
	clear(all)
	if s != right(Report{7, was[:2]}) {
		t.Fatalf("%q", s)
	}
	a, _ := OpenReport(s)
	b, _ := OpenReport(s)
	clear(a.Rows[:cap(a.Rows)])
	if c, _ := OpenReport(s); !same(b, Report{7, was[:2]}) || !same(c, b) {
		t.Fatal(b, c)
	}
	noClose(t, Report{7, was[:0]})
}
