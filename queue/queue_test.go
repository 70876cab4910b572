package queue

import (
	"math"
	"math/rand/v2"
	"runtime"
	"slices"
	"strings"
	"testing"

	"chaff/api"
	"chaff/noise"
	"chaff/plan"
)

// aPlan is a plan that may be, of a length, so many payloads a contact, and contacts.
func aPlan(length, most int, contacts ...uint64) plan.Plan {
	one := plan.Ratio{Num: 1, Den: 1}
	cost := plan.Cost{Eps: one, Delta: plan.Ratio{Den: 1}}
	return plan.Plan{
		Prec: 16, Length: length, Queue: most, Global: cost, Contact: cost, Tau: one, Noise: noise.Law{Num: 1, Den: 1},
		Classes: []plan.Cost{cost}, Contacts: contacts,
	}
}

// begun are empty queues.
func begun(t testing.TB, p plan.Plan) Queues {
	t.Helper()
	q, e := New(p)
	if e != api.OK {
		t.Fatal(p, e)
	}
	return q
}

// pushed are queues with payloads more, which goes well.
func pushed(t testing.TB, q Queues, contact uint64, payloads ...string) Queues {
	t.Helper()
	for _, s := range payloads {
		r, e := q.Push(contact, s)
		if e != api.OK {
			t.Fatalf("%d %q %v", contact, s, e)
		}
		q = r
	}
	return q
}

// popped are queues without a contact's first payload, which is this one.
func popped(t testing.TB, q Queues, i int, want string) Queues {
	t.Helper()
	r, s, e := q.Pop(i)
	if s != want || e != api.OK {
		t.Fatalf("%d: %q %v, not %q", i, s, e, want)
	}
	return r
}

// nowhere are numbers that no contact has, of so many contacts.
func nowhere(contacts int) []int {
	return []int{contacts, contacts + 1, -1, -2, 16, 17, 255, 256, 1 << 31, 1<<32 - 1, 1 << 32, -1 << 32, math.MinInt, math.MinInt + 1, math.MaxInt - 1, math.MaxInt}
}

// holds looks whether queues have just these payloads; it pops none off q itself.
func holds(t testing.TB, q Queues, want ...[]string) {
	t.Helper()
	all := 0
	for i, l := range want {
		all += len(l)
		if q.Len(i) != len(l) {
			t.Fatal(i, q.Len(i), "not", len(l))
		}
		r := q
		for _, s := range l {
			if head, ok := r.Head(i); head != s || !ok {
				t.Fatalf("%d: %q %v, not %q", i, head, ok, s)
			}
			r = popped(t, r, i, s)
		}
		if head, ok := r.Head(i); head != "" || ok || r.Len(i) != 0 {
			t.Fatal(i, head, ok)
		}
		if r.Total() != q.Total()-len(l) {
			t.Fatal(i, r.Total(), q.Total())
		}
	}
	if q.Total() != all {
		t.Fatal(q.Total(), "not", all)
	}
	for _, i := range nowhere(len(want)) {
		if head, ok := q.Head(i); i < 0 || i >= len(want) {
			if head != "" || ok || q.Len(i) != 0 {
				t.Fatal(i, head, ok, q.Len(i))
			}
		}
	}
}

// noPush looks whether a push goes wrong so, and leaves queues as they were.
func noPush(t testing.TB, q Queues, contact uint64, payload string, want api.Errno, has ...[]string) {
	t.Helper()
	r, e := q.Push(contact, payload)
	if e != want {
		t.Fatal(contact, len(payload), e, "not", want)
	}
	holds(t, q, has...)
	holds(t, r, has...)
}

// noPop looks whether a pop goes wrong so, and leaves queues as they were.
func noPop(t testing.TB, q Queues, i int, want api.Errno, has ...[]string) {
	t.Helper()
	r, s, e := q.Pop(i)
	if s != "" || e != want {
		t.Fatal(i, s, e, "not", want)
	}
	holds(t, q, has...)
	holds(t, r, has...)
}

func TestExample(t *testing.T) {
	q := pushed(t, begun(t, aPlan(1, 2, 7)), 7, "a", "b")
	q = popped(t, q, 0, "a")
	q = popped(t, q, 0, "b")
	holds(t, q, nil)
}

// P27.1: new queues are empty, of one contact and of 16.
func TestNew(t *testing.T) {
	holds(t, begun(t, aPlan(1, 1, 0)), nil)
	many, none := contacts(16), make([][]string, 16)
	q := begun(t, aPlan(256, 64, many...))
	holds(t, q, none...)
	for i, c := range many {
		s := strings.Repeat(string(rune('a'+i)), 256)
		has := slices.Clone(none)
		has[i] = []string{s}
		holds(t, pushed(t, q, c, s), has...)
	}
}

// contacts are so many that rise, the first of them 0, the last of them the greatest number there is.
func contacts(n int) []uint64 {
	out := make([]uint64, n)
	for i := range out {
		out[i] = uint64(i) * uint64(i) * 3
	}
	out[n-1] = math.MaxUint64
	return out
}

// P27.1: the error of a plan that may not be.
func TestNewWrong(t *testing.T) {
	good := aPlan(1, 1, 7)
	for _, c := range []struct {
		bend func(p *plan.Plan)
		want api.Errno
	}{
		{func(p *plan.Plan) { *p = plan.Plan{} }, api.ErrRange},
		{func(p *plan.Plan) { p.Mode = 2 }, api.ErrRange},
		{func(p *plan.Plan) { p.Prec = 7 }, api.ErrRange},
		{func(p *plan.Plan) { p.Length = 0 }, api.ErrRange},
		{func(p *plan.Plan) { p.Length = 257 }, api.ErrRange},
		{func(p *plan.Plan) { p.Length = math.MinInt }, api.ErrRange},
		{func(p *plan.Plan) { p.Queue = 0 }, api.ErrRange},
		{func(p *plan.Plan) { p.Queue = 65 }, api.ErrRange},
		{func(p *plan.Plan) { p.Queue = -1 }, api.ErrRange},
		{func(p *plan.Plan) { p.Mode = plan.Strong }, api.ErrRange},
		{func(p *plan.Plan) { p.Global.Eps.Den = 0 }, api.ErrRange},
		{func(p *plan.Plan) { p.Contact.Delta.Den = 0 }, api.ErrRange},
		{func(p *plan.Plan) { p.Tau.Den = 0 }, api.ErrRange},
		{func(p *plan.Plan) { p.Noise.Den = 0 }, api.ErrRange},
		{func(p *plan.Plan) { p.Classes = nil }, api.ErrClass},
		{func(p *plan.Plan) { p.Classes, p.Contacts = nil, nil }, api.ErrClass},
		{func(p *plan.Plan) { p.Classes = make([]plan.Cost, 9) }, api.ErrClass},
		{func(p *plan.Plan) { p.Contacts = nil }, api.ErrName},
		{func(p *plan.Plan) { p.Contacts = []uint64{} }, api.ErrName},
		{func(p *plan.Plan) { p.Contacts = []uint64{8, 7} }, api.ErrName},
		{func(p *plan.Plan) { p.Contacts = []uint64{7, 7} }, api.ErrName},
		{func(p *plan.Plan) { p.Contacts = contacts(17) }, api.ErrName},
	} {
		p := good
		p.Classes, p.Contacts = slices.Clone(p.Classes), slices.Clone(p.Contacts)
		c.bend(&p)
		q, e := New(p)
		if e != c.want || e != p.Check() {
			t.Fatal(p, e, "not", c.want)
		}
		// Beside an error they have no contact, and nothing panics.
		holds(t, q)
		noPush(t, q, 7, "a", api.ErrName)
		noPush(t, q, 0, "", api.ErrName)
		noPop(t, q, 0, api.ErrName)
	}
}

// P27.1: what is pushed is behind the contact's others; all bytes may be pushed.
func TestPush(t *testing.T) {
	q := begun(t, aPlan(2, 5, 3, 4))
	var has []string
	for _, s := range []string{"aa", "\x00\x00", "\xff\xfe", "aa", "é"} {
		q = pushed(t, q, 4, s)
		has = append(has, s)
		holds(t, q, nil, has)
	}
	q = pushed(t, q, 3, "bb")
	holds(t, q, []string{"bb"}, has)
}

// P27.1: a contact is told by its name, not by its number.
func TestPushName(t *testing.T) {
	q := begun(t, aPlan(1, 2, 1, 5, math.MaxUint64))
	for _, c := range []uint64{0, 2, 3, 4, 6, 255, 257, 1 << 32, 1<<32 + 1, 1<<32 + 5, 1 << 63, math.MaxUint64 - 1} {
		noPush(t, q, c, "a", api.ErrName, nil, nil, nil)
	}
	holds(t, pushed(t, q, 1, "a"), []string{"a"}, nil, nil)
	holds(t, pushed(t, q, 5, "a"), nil, []string{"a"}, nil)
	holds(t, pushed(t, q, math.MaxUint64, "a"), nil, nil, []string{"a"})
}

// P27.1: a payload has as many bytes as Length, not fewer, not more.
func TestPushForm(t *testing.T) {
	for _, length := range []int{1, 2, 3, 128, 255, 256} {
		q := begun(t, aPlan(length, 1, 9))
		for _, n := range []int{0, 1, 2, 3, 4, 127, 128, 129, 254, 255, 256, 257, 258, 512, 1 << 16, 1<<16 + 1, 1<<16 + 256} {
			s := strings.Repeat("x", n)
			if n == length {
				holds(t, pushed(t, q, 9, s), []string{s})
				continue
			}
			noPush(t, q, 9, s, api.ErrForm, nil)
		}
	}
	// Bytes count, not runes.
	q := begun(t, aPlan(2, 1, 9))
	noPush(t, q, 9, "éé", api.ErrForm, nil)
}

// P27.1: as many as Queue are allowed, one more is not; each contact has its own bound.
func TestPushFull(t *testing.T) {
	for most := 1; most <= 64; most++ {
		q := begun(t, aPlan(1, most, 3, 4))
		var has []string
		for i := range most {
			s := string(rune('0' + i))
			q = pushed(t, q, 3, s)
			has = append(has, s)
		}
		noPush(t, q, 3, "z", api.ErrFull, has, nil)
		r := pushed(t, q, 4, has...)
		noPush(t, r, 3, "z", api.ErrFull, has, has)
		noPush(t, r, 4, "z", api.ErrFull, has, has)
		// Where one is popped, there is room for one.
		r = pushed(t, popped(t, r, 0, "0"), 3, "y")
		noPush(t, r, 3, "z", api.ErrFull, append(slices.Clone(has[1:]), "y"), has)
	}
}

// P27.1: ErrName ahead of ErrForm, ErrForm ahead of ErrFull.
func TestPushWrong(t *testing.T) {
	q := pushed(t, begun(t, aPlan(2, 2, 3, 4)), 4, "aa", "bb")
	has := [][]string{nil, {"aa", "bb"}}
	for _, s := range []string{"", "c", "cc", "ccc"} {
		noPush(t, q, 5, s, api.ErrName, has...)
		noPush(t, q, 1, s, api.ErrName, has...)
		if len(s) != 2 {
			noPush(t, q, 4, s, api.ErrForm, has...)
			noPush(t, q, 3, s, api.ErrForm, has...)
		}
	}
	noPush(t, q, 4, "cc", api.ErrFull, has...)
}

// P27.1: ErrName of a number that no contact has, ErrNone of an empty queue.
func TestPopWrong(t *testing.T) {
	for n := 1; n <= 16; n++ {
		names, has := contacts(16)[16-n:], make([][]string, n)
		q := begun(t, aPlan(1, 2, names...))
		for i := range n {
			noPop(t, q, i, api.ErrNone, has...)
		}
		q = pushed(t, q, names[n-1], "a")
		has[n-1] = []string{"a"}
		for i := range n - 1 {
			noPop(t, q, i, api.ErrNone, has...)
		}
		for _, i := range nowhere(n) {
			if i < 0 || i >= n {
				noPop(t, q, i, api.ErrName, has...)
			}
		}
		q = popped(t, q, n-1, "a")
		noPop(t, q, n-1, api.ErrNone, make([][]string, n)...)
	}
}

// P27.2: in the same order, once, and contacts don't hang on each other.
func TestOrder(t *testing.T) {
	q := begun(t, aPlan(1, 3, 10, 20))
	q = pushed(t, q, 20, "a")
	q = pushed(t, q, 10, "b")
	q = pushed(t, q, 20, "c")
	q = pushed(t, q, 10, "d", "d")
	holds(t, q, []string{"b", "d", "d"}, []string{"a", "c"})
	q = popped(t, q, 0, "b")
	q = popped(t, q, 1, "a")
	q = pushed(t, q, 20, "a", "e")
	noPush(t, q, 20, "f", api.ErrFull, []string{"d", "d"}, []string{"c", "a", "e"})
	for _, s := range []string{"c", "a", "e"} {
		q = popped(t, q, 1, s)
	}
	noPop(t, q, 1, api.ErrNone, []string{"d", "d"}, nil)
	q = popped(t, q, 0, "d")
	q = popped(t, q, 0, "d")
	holds(t, q, nil, nil)
}

// P27.1: queues that are gone on with twice don't write over one another, however long they are.
func TestPart(t *testing.T) {
	q, has := begun(t, aPlan(1, 64, 7)), []string(nil)
	for i := range 62 {
		left, right := pushed(t, q, 7, "l"), pushed(t, q, 7, "r")
		after := pushed(t, left, 7, "x")
		holds(t, pushed(t, right, 7, "y"), append(slices.Clone(has), "r", "y"))
		holds(t, left, append(slices.Clone(has), "l"))
		holds(t, right, append(slices.Clone(has), "r"))
		holds(t, after, append(slices.Clone(has), "l", "x"))
		if i > 0 {
			// Behind a pop there is room again.
			short := popped(t, q, 0, has[0])
			one, two := pushed(t, short, 7, "1"), pushed(t, short, 7, "2")
			holds(t, one, append(slices.Clone(has[1:]), "1"))
			holds(t, two, append(slices.Clone(has[1:]), "2"))
		}
		holds(t, q, has)
		s := string(rune('!' + i))
		q = pushed(t, q, 7, s)
		has = append(has, s)
	}
}

// kept are queues, and what they have.
type kept struct {
	q   Queues
	has [][]string
}

// next is what comes of queues by a push or a pop, which may go wrong.
func next(t testing.TB, r *rand.Rand, k kept, names []uint64, length, most int) kept {
	t.Helper()
	i := r.IntN(len(names))
	has := make([][]string, len(names))
	for j, l := range k.has {
		has[j] = slices.Clone(l)
	}
	if r.IntN(5) < 3 {
		s := text(r, length)
		if len(k.has[i]) == most {
			noPush(t, k.q, names[i], s, api.ErrFull, k.has...)
			return k
		}
		has[i] = append(has[i], s)
		return kept{pushed(t, k.q, names[i], s), has}
	}
	if len(k.has[i]) == 0 {
		noPop(t, k.q, i, api.ErrNone, k.has...)
		return k
	}
	has[i] = has[i][1:]
	return kept{popped(t, k.q, i, k.has[i][0]), has}
}

// text is one of any bytes.
func text(r *rand.Rand, n int) string {
	b := make([]byte, n)
	for i := range b {
		b[i] = byte(r.Uint32())
	}
	return string(b)
}

// P27.1, P27.2: of any pushes and pops, on the newest queues and on older ones, which stay as they were.
func TestAny(t *testing.T) {
	r := rand.New(rand.NewPCG(27, 1))
	for range 60 {
		n, length, most := 1+r.IntN(16), 1+r.IntN(256), 1+r.IntN(1<<(1+r.IntN(6)))
		names := contacts(n)
		all := []kept{{begun(t, aPlan(length, most, names...)), make([][]string, n)}}
		for range 300 {
			from := all[len(all)-1]
			if r.IntN(6) == 0 {
				from = all[r.IntN(len(all))]
			}
			all = append(all, next(t, r, from, names, length, most))
		}
		for _, k := range all {
			holds(t, k.q, k.has...)
		}
	}
}

// P27.2: one queue by itself, of many more payloads than it may have at once.
func TestLong(t *testing.T) {
	r := rand.New(rand.NewPCG(27, 2))
	q, in, out := begun(t, aPlan(4, 64, 1, 2)), 0, 0
	name := func(n int) string { return string([]byte{byte(n >> 24), byte(n >> 16), byte(n >> 8), byte(n)}) }
	for out < 30000 {
		for range r.IntN(65) {
			s, e := q.Push(2, name(in))
			if full := in-out == 64; full != (e == api.ErrFull) || !full && e != api.OK {
				t.Fatal(in, out, e)
			}
			if q = s; e == api.OK {
				in++
			}
		}
		for range r.IntN(65) {
			s, head, e := q.Pop(1)
			if in == out {
				if e != api.ErrNone {
					t.Fatal(in, e)
				}
				continue
			}
			if head != name(out) || e != api.OK {
				t.Fatal(out, e)
			}
			q = s
			out++
		}
		if q.Len(1) != in-out || q.Len(0) != 0 || q.Total() != in-out {
			t.Fatal(q.Len(1), in, out)
		}
	}
}

// Neither a plan's lists nor the room behind their end are changed, or kept.
func TestNothingShared(t *testing.T) {
	room := []uint64{1, 2, 3, 4, 5}
	p := aPlan(1, 2, room[1:3]...)
	classes := slices.Clone(p.Classes)
	q := pushed(t, begun(t, p), 3, "a")
	if !slices.Equal(room, []uint64{1, 2, 3, 4, 5}) || !slices.Equal(p.Classes, classes) {
		t.Fatal(room, p.Classes)
	}
	for i := range room {
		room[i] = 77
	}
	p.Classes[0] = plan.Cost{}
	noPush(t, q, 77, "b", api.ErrName, nil, []string{"a"})
	holds(t, pushed(t, q, 2, "b"), []string{"b"}, []string{"a"})
}

// A payload that is part of a long text doesn't hold on to it.
func TestNoLongText(t *testing.T) {
	q := begun(t, aPlan(1, 64, 7))
	heap := func() uint64 {
		var m runtime.MemStats
		runtime.GC()
		runtime.GC()
		runtime.ReadMemStats(&m)
		return m.HeapAlloc
	}
	before := heap()
	for range 64 {
		q = pushed(t, q, 7, strings.Repeat("x", 1<<20)[:1])
	}
	if after := heap(); after > before+1<<24 {
		t.Fatal(after - before)
	}
	if q.Len(0) != 64 {
		t.Fatal(q.Len(0))
	}
}
