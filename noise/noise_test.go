package noise

import (
	"math"
	"math/rand/v2"
	"slices"
	"strings"
	"testing"

	"chaff/api"
	"chaff/lap"
	"chaff/tape"
)

// laws are some that may be, small ones and such as come to an end of what is allowed.
func laws() []Law {
	var out []Law
	for _, c := range [][2]uint64{{1, 1}, {1, 2}, {3, 7}, {7, 3}, {1, 100}, {1<<32 - 1, 1}, {1, 1<<32 - 1}, {1<<32 - 1, 1<<32 - 1}} {
		for _, mu := range []int{0, 1, 2, 5, 1000, 1<<20 - 1, 1 << 20} {
			out = append(out, Law{c[0], c[1], mu})
		}
	}
	return out
}

// never are laws that may not be, by each of their parts alone, and by all.
func never() []Law {
	out := []Law{{}, {Mu: 5}, {Num: 1}, {Den: 1}, {0, 0, -1}}
	for _, n := range []uint64{0, 1 << 32, 1<<32 + 1, 1<<63 + 1, math.MaxUint64} {
		out = append(out, Law{n, 1, 0}, Law{1, n, 0}, Law{n, n, 1 << 20}, Law{n, 1<<32 - 1, 5}, Law{1<<32 - 1, n, 5})
	}
	for _, mu := range []int{-1, 1<<20 + 1, 1 << 21, 1 << 32, 1<<32 + 5, math.MinInt, math.MaxInt} {
		out = append(out, Law{1, 1, mu}, Law{1<<32 - 1, 1<<32 - 1, mu})
	}
	return out
}

// wrong looks whether a count has an error, beside which the tape is as it was.
func wrong(t *testing.T, l Law, x tape.Tape, want api.Errno) {
	t.Helper()
	if c, y, e := l.Count(x); c != 0 || y != x || e != want {
		t.Fatal(l, c, y.At(), e, "not", want)
	}
}

// wrongs looks whether counts have an error, beside which the tape is as it was.
func wrongs(t *testing.T, l Law, x tape.Tape, n int, want api.Errno) {
	t.Helper()
	if c, y, e := l.Counts(x, n); len(c) != 0 || y != x || e != want {
		t.Fatal(l, n, len(c), y.At(), e, "not", want)
	}
}

// behind is the tape of a text behind at bits.
func behind(t testing.TB, s string, at int) tape.Tape {
	t.Helper()
	_, x, e := tape.New(s).Read(at)
	if e != api.OK {
		t.Fatal(e)
	}
	return x
}

// some is a text of any bytes.
func some(r *rand.Rand, n int) string {
	out := make([]byte, n)
	for i := range out {
		out[i] = byte(r.Uint32())
	}
	return string(out)
}

// counted holds a count against the noise of the same bits and Mu, or 0, and answers it and the tape behind.
func counted(t *testing.T, l Law, x tape.Tape) (int, tape.Tape, api.Errno) {
	t.Helper()
	z, y, e := lap.Sample(x, l.Num, l.Den)
	if e != api.OK {
		wrong(t, l, x, e)
		return 0, x, e
	}
	want := int64(l.Mu) + z
	if want < 0 {
		want = 0
	}
	c, after, e := l.Count(x)
	if int64(c) != want || c < 0 || after != y || e != api.OK {
		t.Fatal(l, c, after.At(), e, "not", want, y.At())
	}
	return c, after, e
}

func TestExample(t *testing.T) {
	c, x, e := Law{1, 1, 5}.Count(tape.New("\x80"))
	if c != 5 || x.At() != 2 || e != api.OK {
		t.Fatal(c, x.At(), e)
	}
}

// P10.1: which laws may be.
func TestMay(t *testing.T) {
	for _, l := range laws() {
		if !l.May() {
			t.Fatal(l)
		}
	}
	for _, l := range never() {
		if l.May() {
			t.Fatal(l)
		}
	}
}

// P10.1, P10.3: of all texts of two bytes.
func TestAll(t *testing.T) {
	for n := range 1 << 16 {
		x := tape.New(string([]byte{byte(n >> 8), byte(n)}))
		for _, l := range []Law{{1, 1, 0}, {1, 1, 1}, {1, 3, 2}, {5, 1, 0}, {2, 3, 1 << 20}} {
			counted(t, l, x)
		}
	}
}

// P10.1, P10.3: laws of all sizes, from any place.
func TestCount(t *testing.T) {
	r := rand.New(rand.NewPCG(10, 1))
	for _, l := range laws() {
		for range 200 {
			s := some(r, 1+r.IntN(60))
			counted(t, l, behind(t, s, r.IntN(min(64, 8*len(s))+1)))
		}
	}
}

// P10.3: about Mu, above it and below it, down to 0 and no further.
func TestFloor(t *testing.T) {
	const eight = "\x24\x92\x49" // eight times 001: behind it 1 ends them
	for _, c := range []struct{ mu, up, down int }{
		{0, 8, 0}, {1, 9, 0}, {7, 15, 0}, {8, 16, 0}, {9, 17, 1}, {100, 108, 92}, {1 << 20, 1<<20 + 8, 1<<20 - 8},
	} {
		l := Law{1, 1, c.mu}
		for text, want := range map[string]int{eight + "\x80": c.up, eight + "\xc0": c.down} {
			if got, x, e := l.Count(tape.New(text)); got != want || x.At() != 26 || e != api.OK {
				t.Fatal(c, got, x.At(), e)
			}
		}
	}
}

// P10.3: about Mu and any noise there is; beyond the ends of an int nothing is reckoned.
func TestAbout(t *testing.T) {
	for _, mu := range []int{0, 1, 5, 1 << 20} {
		for _, c := range []struct {
			z    int64
			want int
		}{
			{0, mu}, {1, mu + 1}, {-1, max(0, mu-1)}, {1 << 53, mu + 1<<53}, {-1 << 53, 0},
			{-int64(mu), 0}, {-int64(mu) - 1, 0}, {-int64(mu) + 1, 1},
			{math.MaxInt64, math.MaxInt}, {math.MaxInt64 - int64(mu), math.MaxInt}, {math.MaxInt64 - int64(mu) - 1, math.MaxInt - 1},
			{math.MinInt64, 0}, {math.MinInt64 + 1, 0},
		} {
			if got := about(mu, c.z); got != c.want {
				t.Fatal(mu, c, got)
			}
		}
	}
}

// P10.1: a law that may not be, ahead of too few bits; too few bits.
func TestCountWrong(t *testing.T) {
	for _, x := range []tape.Tape{{}, tape.New(""), tape.New("\x80"), behind(t, "\xaa\xaa\xaa", 7), behind(t, "\xff", 8)} {
		for _, l := range never() {
			wrong(t, l, x, api.ErrRange)
		}
	}
	for _, l := range laws() {
		wrong(t, l, tape.Tape{}, api.ErrBits)
		wrong(t, l, behind(t, "\xaa", 8), api.ErrBits)
		wrong(t, l, behind(t, "\x80", 7), api.ErrBits)
	}
}

// P10.2: so many counts are what one count behind the other is.
func TestCounts(t *testing.T) {
	r := rand.New(rand.NewPCG(10, 2))
	for _, l := range laws() {
		for range 40 {
			s := some(r, 1+r.IntN(200))
			heldCounts(t, l, behind(t, s, r.IntN(8)), r.IntN(12))
		}
	}
}

// heldCounts holds n counts against one behind the other; if one of these has too few bits, so have they.
func heldCounts(t *testing.T, l Law, x tape.Tape, n int) {
	t.Helper()
	var want []int
	y := x
	for range n {
		c, after, e := counted(t, l, y)
		if e != api.OK {
			wrongs(t, l, x, n, e)
			return
		}
		want, y = append(want, c), after
	}
	got, after, e := l.Counts(x, n)
	if !slices.Equal(got, want) || after != y || e != api.OK {
		t.Fatal(l, n, got, after.At(), e, "not", want, y.At())
	}
}

// P10.2: no counts need no bits; the most that are allowed; one bit less than they need.
func TestHowMany(t *testing.T) {
	for _, l := range laws() {
		for _, x := range []tape.Tape{{}, tape.New("\x80"), behind(t, "\x80", 8)} {
			if c, y, e := l.Counts(x, 0); len(c) != 0 || y != x || e != api.OK {
				t.Fatal(l, c, e)
			}
		}
	}
	const most = 1 << 20
	l := Law{1, 1, 3}
	all := strings.Repeat("\xaa", most/4) // 10: the noise is 0
	c, x, e := l.Counts(tape.New(all), most)
	if len(c) != most || slices.Min(c) != 3 || slices.Max(c) != 3 || x.At() != 2*most || e != api.OK {
		t.Fatal(len(c), x.At(), e)
	}
	wrongs(t, l, behind(t, all, 2), most, api.ErrBits)
	wrongs(t, l, tape.New(all[1:]), most, api.ErrBits)
}

// P10.2: how many may not be, and laws that may not be, ahead of too few bits; too few bits, of the first, of one between, of the last.
func TestCountsWrong(t *testing.T) {
	for _, x := range []tape.Tape{{}, tape.New(strings.Repeat("\xaa", 1<<19)), behind(t, "\xaa\xaa", 9)} {
		for _, n := range []int{-1, 1<<20 + 1, 1 << 21, 1 << 32, math.MinInt, math.MaxInt} {
			wrongs(t, Law{1, 1, 5}, x, n, api.ErrRange)
			wrongs(t, Law{1, 0, 5}, x, n, api.ErrRange)
		}
		for _, l := range never() {
			for _, n := range []int{0, 1, 3, 1 << 20, 1<<20 + 1} {
				wrongs(t, l, x, n, api.ErrRange)
			}
		}
	}
	l := Law{1, 1, 5}
	for n := range 4 {
		wrongs(t, l, behind(t, "\xaa", 2*n), 5-n, api.ErrBits)
		wrongs(t, l, behind(t, "\xaa", 2*n+1), 4-n, api.ErrBits)
	}
	wrongs(t, l, tape.Tape{}, 1<<20, api.ErrBits)
}

// A tape stays as it was, and what is handed out is new each time.
func TestNew(t *testing.T) {
	l := Law{1, 1, 5}
	x := tape.New("\xaa\xaa")
	kept := x
	first, _, _ := l.Counts(x, 4)
	for i := range first {
		first[i] = 77
	}
	second, y, e := l.Counts(x, 4)
	if !slices.Equal(second, []int{5, 5, 5, 5}) || y.At() != 8 || e != api.OK || x != kept {
		t.Fatal(second, y.At(), e)
	}
}
