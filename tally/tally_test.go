package tally

import (
	"math"
	"math/big"
	"math/rand/v2"
	"slices"
	"testing"

	"chaff/api"
	"chaff/news"
	"chaff/rat"
)

// report is one of values and times, one behind the other.
func report(pairs ...uint32) news.Report {
	r := news.Report{Epoch: 7}
	for i := 0; i+1 < len(pairs); i += 2 {
		r.Rows = append(r.Rows, news.Row{Value: pairs[i], Times: pairs[i+1]})
	}
	return r
}

// made is the tally of a report that may be.
func made(t testing.TB, r news.Report) Tally {
	t.Helper()
	x, e := New(r)
	if e != api.OK {
		t.Fatal(r, e)
	}
	return x
}

// same looks whether a fraction is n over d, in lowest terms.
func same(t testing.TB, what any, got rat.Rat, n, d uint64) {
	t.Helper()
	want := new(big.Rat).SetFrac(new(big.Int).SetUint64(n), new(big.Int).SetUint64(d))
	if got.String() != want.Num().String()+"/"+want.Denom().String() {
		t.Fatal(what, got, "not", want)
	}
}

// met reckons anew how many were met that are at most x.
func met(r news.Report, x int) uint64 {
	out := uint64(0)
	for _, row := range r.Rows {
		if big.NewInt(int64(x)).Cmp(big.NewInt(int64(row.Value))) >= 0 {
			out += uint64(row.Times)
		}
	}
	return out
}

// points reckons the points anew.
func points(r news.Report) []int {
	all := map[int]bool{}
	for _, row := range r.Rows {
		all[int(row.Value)] = true
		if row.Value > 0 {
			all[int(row.Value)-1] = true
		}
	}
	var out []int
	for x := range all {
		out = append(out, x)
	}
	slices.Sort(out)
	return out
}

// hold holds all of a tally against what is reckoned anew.
func hold(t testing.TB, r news.Report, x Tally) {
	t.Helper()
	total := met(r, math.MaxInt)
	if x.Total() != total {
		t.Fatal(r, x.Total(), "not", total)
	}
	if got, want := x.Points(), points(r); !slices.Equal(got, want) {
		t.Fatal(r, got, "not", want)
	}
	about := []int{math.MinInt, -1 << 40, -2, -1, 0, 1, 1 << 31, 1<<32 - 1, 1 << 32, 1 << 40, math.MaxInt}
	for _, row := range r.Rows {
		v := int(row.Value)
		about = append(about, v-2, v-1, v, v+1, v+2, v+1<<32, v-1<<32)
	}
	for _, at := range about {
		same(t, []any{r, at}, x.Part(at), met(r, at), total)
	}
}

// empty looks whether a tally is a zero one in all that is told of it.
func empty(t testing.TB, x Tally) {
	t.Helper()
	if x.Total() != 0 || len(x.Points()) != 0 {
		t.Fatal(x.Total(), x.Points())
	}
	for _, at := range []int{math.MinInt, -1, 0, 1, 5, math.MaxInt} {
		same(t, at, x.Part(at), 0, 1)
	}
}

// many is a report of n rows, of values that are so far apart.
func many(n int, first, step, times uint32) news.Report {
	var r news.Report
	for i := range uint32(n) {
		r.Rows = append(r.Rows, news.Row{Value: first + i*step, Times: times})
	}
	return r
}

func TestExample(t *testing.T) {
	x := made(t, report(2, 3, 5, 1))
	same(t, 2, x.Part(2), 3, 4)
	if !slices.Equal(x.Points(), []int{1, 2, 4, 5}) {
		t.Fatal(x.Points())
	}
}

// P25.1: reports with edges of their own: the value 0, values side by side, the greatest ones, few rows and as many as may be.
func TestEdges(t *testing.T) {
	const top = math.MaxUint32
	for _, r := range []news.Report{
		report(0, 1), report(1, 1), report(2, 1), report(top, top), report(top-1, 1, top, 1), report(0, top, top, top),
		report(0, 1, 1, 1), report(0, 1, 2, 1), report(0, 1, 3, 1), report(1, 2, 2, 4, 3, 6), report(1, 5, 3, 5, 4, 5, 7, 5),
		report(1<<31-1, 3, 1<<31, 3, 1<<31+1, 3), report(5, 4, 9, 6),
		many(255, 0, 1, 1), many(256, 0, 1, top), many(256, 1, 2, 3), many(256, 0, 3, top), many(256, 1<<32-256, 1, 1), many(256, 255, 1<<24, top),
	} {
		hold(t, r, made(t, r))
	}
}

// P25.1: the points, told in full.
func TestPoints(t *testing.T) {
	for _, c := range []struct {
		r    news.Report
		want []int
	}{
		{report(0, 9), []int{0}},
		{report(1, 9), []int{0, 1}},
		{report(0, 9, 1, 9), []int{0, 1}},
		{report(0, 9, 2, 9), []int{0, 1, 2}},
		{report(0, 9, 3, 9), []int{0, 2, 3}},
		{report(4, 9, 5, 9, 6, 9, 8, 9, 11, 9), []int{3, 4, 5, 6, 7, 8, 10, 11}},
		{report(1<<32-1, 1), []int{1<<32 - 2, 1<<32 - 1}},
	} {
		if got := made(t, c.r).Points(); !slices.Equal(got, c.want) {
			t.Fatal(c.r, got, "not", c.want)
		}
	}
}

// P25.1: as many as may be met are counted, beyond 32 bits.
func TestMost(t *testing.T) {
	x := made(t, many(256, 0, 1, math.MaxUint32))
	if x.Total() != 256*(1<<32-1) {
		t.Fatal(x.Total())
	}
	same(t, "half", x.Part(127), 1, 2)
	same(t, "a 256th", x.Part(0), 1, 256)
	same(t, "all", x.Part(255), 1, 1)
}

// P25.1: a report that may not be: no rows, too many, a value that wasn't met, values that don't rise.
func TestWrong(t *testing.T) {
	for _, r := range []news.Report{
		{}, {Epoch: 5}, {Rows: []news.Row{}}, many(257, 0, 1, 1), many(1000, 0, 1, 0), many(5, 0, 0, 1),
		report(0, 0), report(5, 0), report(1, 1, 2, 0), report(1, 0, 2, 1), report(1, 1, 2, 0, 3, 1),
		report(1, 1, 1, 1), report(2, 1, 1, 1), report(1, 1, 3, 1, 2, 1), report(1, 1, 2, 1, 2, 5), report(1<<32-1, 1, 0, 1),
	} {
		x, e := New(r)
		if e != api.ErrForm {
			t.Fatal(r, e)
		}
		empty(t, x)
	}
	r := many(256, 0, 1, 1)
	r.Rows[255].Times = 0
	if _, e := New(r); e != api.ErrForm {
		t.Fatal(e)
	}
}

// P25.1: of a zero tally 0, 0, none.
func TestZero(t *testing.T) { empty(t, Tally{}) }

// anyReport is some report that may be.
func anyReport(r *rand.Rand) news.Report {
	var out news.Report
	value, step, times := uint32(r.IntN(3)), 1+r.Uint32N(1<<(1+r.IntN(15))), uint32(1)<<r.IntN(32)
	for range 1 + r.IntN(256)>>r.IntN(8) {
		out.Rows = append(out.Rows, news.Row{Value: value, Times: 1 + r.Uint32N(times)})
		value += 1 + r.Uint32N(step)
	}
	return out
}

// P25.1: of any reports.
func TestAny(t *testing.T) {
	r := rand.New(rand.NewPCG(25, 1))
	for range 1500 {
		a := anyReport(r)
		hold(t, a, made(t, a))
	}
}

// P25.2: the part doesn't fall, is 0 below the least value, 1 from the greatest on, and changes at values, each of which is a point, only.
func TestPart(t *testing.T) {
	r := rand.New(rand.NewPCG(25, 2))
	one, _ := rat.Of(1, 1)
	for range 300 {
		a := anyReport(r)
		x := made(t, a)
		least, greatest := int(a.Rows[0].Value), int(a.Rows[len(a.Rows)-1].Value)
		if !x.Part(least-1).Zero() || x.Part(least).Zero() || x.Part(greatest).Cmp(one) != 0 || x.Part(greatest-1).Cmp(one) >= 0 {
			t.Fatal(a)
		}
		values := map[int]bool{}
		for _, row := range a.Rows {
			values[int(row.Value)] = true
		}
		last := rat.Rat{}
		for at := -3; at < min(greatest+3, 3000); at++ {
			part := x.Part(at)
			if c := part.Cmp(last); (c > 0) != values[at] || c < 0 {
				t.Fatal(a, at, part, "behind", last)
			}
			last = part
		}
	}
}

// P25.2: from a point up to the next one the part is the same.
func TestBetweenPoints(t *testing.T) {
	r := rand.New(rand.NewPCG(25, 3))
	for range 300 {
		x := made(t, anyReport(r))
		points := x.Points()
		for i, from := range points[1:] {
			part := x.Part(points[i])
			for _, at := range []int{points[i], (points[i] + from) / 2, from - 1} {
				if x.Part(at).Cmp(part) != 0 {
					t.Fatal(points[i], at, from)
				}
			}
		}
	}
}

// Where a chance that rises with x and the part are farthest apart, there is a point.
func TestFarthest(t *testing.T) {
	r := rand.New(rand.NewPCG(25, 4))
	for range 300 {
		var a news.Report
		for v := r.Uint32N(9); v < 300; v += 1 + r.Uint32N(40) {
			a.Rows = append(a.Rows, news.Row{Value: v, Times: 1 + r.Uint32N(9)})
		}
		x := made(t, a)
		// Up to each count the chance is so many of the last one's.
		chance := make([]float64, 400)
		for at := range chance[1:] {
			chance[at+1] = chance[at] + r.ExpFloat64()
		}
		apart := func(at int) float64 {
			return math.Abs(float64(met(a, at))/float64(x.Total()) - chance[at]/chance[len(chance)-1])
		}
		best := 0.0
		for _, at := range x.Points() {
			best = max(best, apart(at))
		}
		for at := range chance {
			if apart(at) > best+1e-12 {
				t.Fatal(a, at, apart(at), best)
			}
		}
	}
}

// What is handed in isn't changed, and not kept; what is handed out is new.
func TestNothingIsShared(t *testing.T) {
	rows := []news.Row{{Value: 2, Times: 3}, {Value: 5, Times: 1}, {Value: 1, Times: 9}, {Value: 0, Times: 0}}
	before := slices.Clone(rows)
	a := news.Report{Rows: rows[:2]}
	x := made(t, a)
	hold(t, a, x)
	if !slices.Equal(rows, before) {
		t.Fatal(rows)
	}
	rows[0], rows[1] = news.Row{Value: 7, Times: 7}, news.Row{Value: 8, Times: 8}
	y := x
	for range 2 {
		hold(t, report(2, 3, 5, 1), x)
		hold(t, report(2, 3, 5, 1), y)
		l := x.Points()
		for i := range l {
			l[i] = 99
		}
		x.Part(2).Num().Words()[0] = 99
	}
	// The epoch is nothing to a tally.
	hold(t, news.Report{Epoch: 1 << 31, Rows: before[:2]}, made(t, news.Report{Rows: before[:2]}))
}
