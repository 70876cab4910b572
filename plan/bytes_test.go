package plan

import (
	"bytes"
	"encoding/binary"
	"math/rand/v2"
	"runtime"
	"strings"
	"testing"

	"chaff/api"
)

// The tests lay and read bytes by encoding/binary, which the program itself may not call.

// laid are a plan's bytes, be it one that may be or not, with these numbers of classes and contacts.
func laid(p Plan, classes, contacts byte) string {
	b := []byte{byte(p.Mode), byte(p.Prec)}
	b = binary.BigEndian.AppendUint16(b, uint16(p.Length))
	b = append(b, byte(p.Queue))
	ratio := func(r Ratio) { b = binary.BigEndian.AppendUint32(binary.BigEndian.AppendUint32(b, r.Num), r.Den) }
	for _, r := range []Ratio{p.Slack, p.Global.Eps, p.Global.Delta, p.Contact.Eps, p.Contact.Delta, p.Tau} {
		ratio(r)
	}
	b = binary.BigEndian.AppendUint64(b, p.Noise.Num)
	b = binary.BigEndian.AppendUint64(b, p.Noise.Den)
	b = binary.BigEndian.AppendUint32(b, uint32(p.Noise.Mu))
	b = append(b, classes)
	for _, c := range p.Classes {
		ratio(c.Eps)
		ratio(c.Delta)
	}
	b = append(b, contacts)
	for _, c := range p.Contacts {
		b = binary.BigEndian.AppendUint64(b, c)
	}
	return string(b)
}

// right are a plan's bytes.
func right(p Plan) string { return laid(p, byte(len(p.Classes)), byte(len(p.Contacts))) }

// head is what a plan's bytes have ahead of how many classes there are.
type head struct {
	Mode, Prec                                           uint8
	Length                                               uint16
	Queue                                                uint8
	Slack, GlobalEps, GlobalDelta, ConEps, ConDelta, Tau Ratio
	Num, Den                                             uint64
	Mu                                                   uint32
}

// read is the plan of bytes, as the chapter tells it.
func read(s string) (Plan, api.Errno) {
	in := bytes.NewReader([]byte(s))
	short := false
	take := func(what any) { short = short || binary.Read(in, binary.BigEndian, what) != nil }
	var h head
	var many uint8
	take(&h)
	take(&many)
	p := Plan{Mode: Mode(h.Mode), Prec: int(h.Prec), Length: int(h.Length), Queue: int(h.Queue), Slack: h.Slack, Global: Cost{h.GlobalEps, h.GlobalDelta}, Contact: Cost{h.ConEps, h.ConDelta}, Tau: h.Tau}
	p.Noise.Num, p.Noise.Den, p.Noise.Mu = h.Num, h.Den, int(h.Mu)
	p.Classes = make([]Cost, many)
	take(p.Classes)
	take(&many)
	p.Contacts = make([]uint64, many)
	take(p.Contacts)
	switch {
	case short:
		return Plan{}, api.ErrShort
	case in.Len() > 0:
		return Plan{}, api.ErrLong
	}
	if e := told(p); e != api.OK {
		return Plan{}, e
	}
	return p, api.OK
}

// decodes looks whether bytes have this plan, or this error, beside which it is zero; and, P18.3, whether it may be and is encoded as it was.
func decodes(t *testing.T, what, s string, want Plan, fault api.Errno) {
	t.Helper()
	p, e := Decode(s)
	if e != fault || !same(p, want) {
		t.Fatalf("%s: Decode %+v %v, not %+v %v", what, p, e, want, fault)
	}
	if e != api.OK {
		return
	}
	if again, e := p.Encode(); p.Check() != api.OK || again != s || e != api.OK {
		t.Fatalf("%s: %+v isn't encoded as it was: %v", what, p, e)
	}
}

// wrong looks whether bytes have this error.
func wrong(t *testing.T, what, s string, fault api.Errno) {
	t.Helper()
	decodes(t, what, s, Plan{}, fault)
}

// P18.2: each byte of a plan, written out.
func TestBytes(t *testing.T) {
	p := small()
	p.Mode, p.Slack, p.Length = Strong, Ratio{0x01020304, 0x7f060708}, 256
	want := "\x01\x10\x01\x00\x03" +
		"\x01\x02\x03\x04\x7f\x06\x07\x08" +
		"\x00\x00\x00\x03\x00\x00\x00\x02\x00\x00\x00\x01\x00\x00\x00\x01" +
		"\x00\x00\x00\x01\x00\x00\x00\x01\x00\x00\x00\x01\x00\x00\x00\x09" +
		"\x00\x00\x00\x01\x00\x00\x00\x05" +
		"\x00\x00\x00\x00\x00\x00\x00\x01\x00\x00\x00\x00\x00\x00\x00\x02\x00\x00\x00\x03" +
		"\x02" +
		"\x00\x00\x00\x01\x00\x00\x00\x02\x00\x00\x00\x00\x00\x00\x00\x01" +
		"\x00\x00\x00\x01\x00\x00\x00\x04\x00\x00\x00\x01\x00\x00\x00\x64" +
		"\x02" +
		"\x00\x00\x00\x00\x00\x00\x00\x0a\x00\x00\x00\x00\x00\x00\x00\x14"
	if s, e := p.Encode(); s != want || e != api.OK {
		t.Fatalf("%q %v", s, e)
	}
	decodes(t, "bytes", want, p, api.OK)
}

// P18.2, P18.3: plans of all kinds are encoded as the chapter tells, and decoded as they were; the Slack of a plan that isn't Strong, too.
func TestAsTheyWere(t *testing.T) {
	for _, p := range plans() {
		s, e := p.Encode()
		if e != api.OK || s != right(p) {
			t.Fatalf("%+v: %q %v", p, s, e)
		}
		decodes(t, "a plan", s, p, api.OK)
	}
}

// P18.2: bytes that are cut are wanting, wherever; ahead of Check's errors, too.
func TestShort(t *testing.T) {
	bad := small()
	bad.Prec, bad.Classes[0].Eps.Num, bad.Contacts[1] = 0, 0, 10
	for _, p := range []Plan{small(), least(), greatest(), loose(), bad} {
		s := right(p)
		for n := range len(s) {
			wrong(t, "cut", s[:n], api.ErrShort)
		}
	}
	wrong(t, "no bytes", "", api.ErrShort)
}

// P18.2: bytes that are left; ahead of Check's errors, too.
func TestLong(t *testing.T) {
	bad := small()
	bad.Prec, bad.Classes[0].Eps.Num, bad.Contacts[1] = 0, 0, 10
	for _, p := range []Plan{small(), least(), greatest(), loose(), bad, {}} {
		for _, rest := range []string{"\x00", "\xff", "x", "12345678", right(p), strings.Repeat("\x00", 70000)} {
			wrong(t, "left", right(p)+rest, api.ErrLong)
		}
	}
	wrong(t, "noughts", strings.Repeat("\x00", 75), api.ErrRange)
	wrong(t, "noughts", strings.Repeat("\x00", 76), api.ErrLong)
	wrong(t, "noughts", strings.Repeat("\x00", 74), api.ErrShort)
}

// P18.2: more classes, or contacts, are told than there are bytes, or than may be; or fewer.
func TestMany(t *testing.T) {
	for n := range 256 {
		p := small()
		s := laid(p, byte(n), 2)
		want, fault := read(s)
		decodes(t, "classes are told", s, want, fault)
		if n > 3 && fault != api.ErrShort {
			t.Fatal("the test's own", n, fault)
		}
		s = laid(p, 2, byte(n))
		want, fault = read(s)
		decodes(t, "contacts are told", s, want, fault)
		if n > 2 && fault != api.ErrShort || n < 2 && fault != api.ErrLong {
			t.Fatal("the test's own", n, fault)
		}
		p.Classes = make([]Cost, n)
		for i := range p.Classes {
			p.Classes[i] = Cost{one, nought}
		}
		want, fault = p, api.OK
		if n < 1 || n > 8 {
			want, fault = Plan{}, api.ErrClass
		}
		decodes(t, "so many classes", right(p), want, fault)
		wrong(t, "so many classes, cut", right(p)[:len(right(p))-1], api.ErrShort)
		p = small()
		p.Contacts = make([]uint64, n)
		for i := range p.Contacts {
			p.Contacts[i] = uint64(i)
		}
		want, fault = p, api.OK
		if n < 1 || n > 16 {
			want, fault = Plan{}, api.ErrName
		}
		decodes(t, "so many contacts", right(p), want, fault)
		wrong(t, "so many contacts, and one byte", right(p)+"\x00", api.ErrLong)
	}
}

// P18.2: each byte of a plan, turned into each other one.
func TestEachByte(t *testing.T) {
	for _, p := range []Plan{small(), least(), greatest(), loose()} {
		s := []byte(right(p))
		for i, was := range s {
			for b := range 256 {
				s[i] = byte(b)
				want, fault := read(string(s))
				decodes(t, "a byte is turned", string(s), want, fault)
			}
			s[i] = was
		}
	}
}

// P18.2, P18.3: bytes of which some are changed, taken away or put in.
func TestAnyBytes(t *testing.T) {
	r := rand.New(rand.NewPCG(18, 3))
	good := 0
	for range 30000 {
		p := some(r)
		if r.IntN(2) == 0 {
			spoil(r, &p)
		}
		s := right(p)
		for range r.IntN(3) {
			at := r.IntN(len(s))
			switch r.IntN(3) {
			case 0:
				s = s[:at] + string([]byte{byte(r.IntN(256))}) + s[at+1:]
			case 1:
				s = s[:at] + s[at+1:]
			case 2:
				s = s[:at] + string([]byte{byte(r.IntN(3))}) + s[at:]
			}
		}
		want, fault := read(s)
		decodes(t, "any bytes", s, want, fault)
		if fault == api.OK {
			good++
		}
	}
	if good < 1000 {
		t.Fatal("the test's own: too few may be,", good)
	}
}

// P18.2: what is behind isn't copied for each number, so that very long bytes end, too (R1).
func TestVeryLong(t *testing.T) {
	behind := strings.Repeat("\x00", 1<<24)
	for _, s := range []string{right(greatest()) + behind, behind, laid(greatest(), 255, 255) + behind} {
		var from, to runtime.MemStats
		runtime.ReadMemStats(&from)
		_, e := Decode(s)
		runtime.ReadMemStats(&to)
		if e != api.ErrLong || to.TotalAlloc-from.TotalAlloc > 1<<20 {
			t.Fatal(e, to.TotalAlloc-from.TotalAlloc)
		}
	}
}
