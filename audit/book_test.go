package audit

import (
	"math"
	"math/rand/v2"
	"testing"

	"chaff/api"
)

// posted is a book with a verdict more, which goes well.
func posted(t testing.TB, b Book, epoch uint32, v Verdict) Book {
	t.Helper()
	c, e := b.Post(epoch, v)
	if e != api.OK {
		t.Fatal(epoch, v, e)
	}
	return c
}

// holds looks whether a book has just these verdicts.
func holds(t testing.TB, b Book, want map[uint32]Verdict) {
	t.Helper()
	if b.Len() != len(want) {
		t.Fatal(b.Len(), "not", len(want))
	}
	for epoch, v := range want {
		if b.On(epoch) != v {
			t.Fatal(epoch, b.On(epoch), "not", v)
		}
	}
	for _, epoch := range []uint32{0, 1, 2, 63, 64, 65, 1 << 16, 1 << 31, math.MaxUint32 - 1, math.MaxUint32} {
		if b.On(epoch) != want[epoch] {
			t.Fatal(epoch, b.On(epoch), "not", want[epoch])
		}
	}
}

// refuses looks whether a post goes wrong so, and whether both books are as the book was.
func refuses(t testing.TB, b Book, epoch uint32, v Verdict, want api.Errno, has map[uint32]Verdict) {
	t.Helper()
	c, e := b.Post(epoch, v)
	if e != want {
		t.Fatal(epoch, v, e, "not", want)
	}
	holds(t, b, has)
	holds(t, c, has)
}

// full is a book with as many verdicts as may be, and what it has.
func full(t testing.TB) (Book, map[uint32]Verdict) {
	t.Helper()
	var b Book
	has := map[uint32]Verdict{}
	for i := range uint32(64) {
		epoch, v := i*i*977, Verdict(1+i%3)
		b = posted(t, b, epoch, v)
		has[epoch] = v
		holds(t, b, has)
	}
	return b, has
}

// odd are verdicts that may not be posted.
func odd() []Verdict {
	return []Verdict{None, -1, 4, 5, 1 << 8, 1<<8 + 1, 1<<16 + 2, 1<<32 + 1, math.MinInt, math.MinInt + 1, math.MaxInt}
}

// P26.2: the zero Book has no verdict.
func TestZeroBook(t *testing.T) { holds(t, Book{}, nil) }

// P26.2: each verdict, on each epoch.
func TestPost(t *testing.T) {
	has := map[uint32]Verdict{}
	var b Book
	for _, p := range []post{{5, Accept}, {0, Reject}, {math.MaxUint32, Unclear}, {1 << 31, Accept}, {4, Reject}, {6, Unclear}} {
		b = posted(t, b, p.epoch, p.verdict)
		has[p.epoch] = p.verdict
		holds(t, b, has)
	}
}

// P26.2: a book that is full takes no more; 64 are allowed.
func TestFull(t *testing.T) {
	b, has := full(t)
	if b.Len() != 64 {
		t.Fatal(b.Len())
	}
	for _, v := range []Verdict{Accept, Reject, Unclear} {
		refuses(t, b, 1, v, api.ErrFull, has)
	}
}

// P26.2: ErrRange ahead of ErrState, ErrState ahead of ErrFull.
func TestPostWrong(t *testing.T) {
	all, allHas := full(t)
	one, oneHas := posted(t, Book{}, 9, Reject), map[uint32]Verdict{9: Reject}
	for _, v := range odd() {
		refuses(t, Book{}, 9, v, api.ErrRange, nil)
		refuses(t, one, 8, v, api.ErrRange, oneHas)
		refuses(t, one, 9, v, api.ErrRange, oneHas)
		refuses(t, all, 1, v, api.ErrRange, allHas)
		refuses(t, all, 977, v, api.ErrRange, allHas)
	}
	for _, v := range []Verdict{Accept, Reject, Unclear} {
		refuses(t, one, 9, v, api.ErrState, oneHas)
		for epoch := range allHas {
			refuses(t, all, epoch, v, api.ErrState, allHas)
		}
	}
}

// P26.2: a book stays as it was, whatever is posted to it, and to what came of it.
func TestBooksStay(t *testing.T) {
	r := rand.New(rand.NewPCG(26, 6))
	type kept struct {
		book Book
		has  map[uint32]Verdict
	}
	all := []kept{{}}
	for range 1500 {
		from := all[r.IntN(len(all))]
		epoch, v := r.Uint32N(200), Verdict(1+r.IntN(3))
		if from.has[epoch] != None {
			refuses(t, from.book, epoch, v, api.ErrState, from.has)
			continue
		}
		has := map[uint32]Verdict{epoch: v}
		for old, was := range from.has {
			has[old] = was
		}
		all = append(all, kept{posted(t, from.book, epoch, v), has})
	}
	for _, k := range all {
		holds(t, k.book, k.has)
	}
}

// P26.2: two that go on from one long book don't write over one another.
func TestBooksPart(t *testing.T) {
	b, has := Book{}, map[uint32]Verdict{}
	for epoch := range uint32(63) {
		left, right := posted(t, b, 1000, Reject), posted(t, b, 2000, Unclear)
		if left.On(1000) != Reject || left.On(2000) != None || right.On(1000) != None || right.On(2000) != Unclear {
			t.Fatal(epoch)
		}
		holds(t, b, has)
		b = posted(t, b, epoch, Accept)
		has[epoch] = Accept
	}
}
