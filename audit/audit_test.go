package audit

import (
	"math"
	"math/big"
	"math/rand/v2"
	"slices"
	"testing"

	"chaff/api"
	"chaff/cdf"
	"chaff/nat"
	"chaff/news"
	"chaff/noise"
	"chaff/plan"
	"chaff/tape"
)

// The tests judge anew by math/big, which the program itself may not call, of layer 11's spans, and of chances that are reckoned by floats.

// aPlan is a plan that may be, by a law, a Tau and a Prec.
func aPlan(l noise.Law, num, den uint32, prec int) plan.Plan {
	one := plan.Ratio{Num: 1, Den: 1}
	cost := plan.Cost{Eps: one, Delta: plan.Ratio{Den: 1}}
	return plan.Plan{
		Prec: prec, Length: 2, Queue: 3, Global: cost, Contact: cost, Tau: plan.Ratio{Num: num, Den: den}, Noise: l,
		Classes: []plan.Cost{cost}, Contacts: []uint64{10, 20},
	}
}

// report is one of values and times, one behind the other.
func report(pairs ...uint32) news.Report {
	r := news.Report{Epoch: 7}
	for i := 0; i+1 < len(pairs); i += 2 {
		r.Rows = append(r.Rows, news.Row{Value: pairs[i], Times: pairs[i+1]})
	}
	return r
}

// judged holds a verdict against what it should be.
func judged(t testing.TB, p plan.Plan, r news.Report, want Verdict) {
	t.Helper()
	if v, e := Judge(p, r); v != want || e != api.OK {
		t.Fatal(p.Noise, p.Tau, p.Prec, r, "is", v, e, "not", want)
	}
}

// wrong holds an error against what it should be.
func wrong(t testing.TB, p plan.Plan, r news.Report, want api.Errno) {
	t.Helper()
	if v, e := Judge(p, r); v != None || e != want {
		t.Fatal(p, len(r.Rows), "is", v, e, "not", want)
	}
}

// fraction is n over d.
func fraction(n, d uint64) *big.Rat {
	return new(big.Rat).SetFrac(new(big.Int).SetUint64(n), new(big.Int).SetUint64(d))
}

// over is a number over 2 to the p.
func over(t testing.TB, n nat.Nat, p int) *big.Rat {
	t.Helper()
	v, ok := new(big.Int).SetString(n.String(), 10)
	if !ok {
		t.Fatal(n)
	}
	return new(big.Rat).SetFrac(v, new(big.Int).Lsh(big.NewInt(1), uint(p)))
}

// part is the part of a report up to x.
func part(r news.Report, x int) *big.Rat {
	some, all := uint64(0), uint64(0)
	for _, row := range r.Rows {
		all += uint64(row.Times)
		if int(row.Value) <= x {
			some += uint64(row.Times)
		}
	}
	return fraction(some, all)
}

// points are a report's points; one that is there twice changes nothing.
func points(r news.Report) []int {
	var out []int
	for _, row := range r.Rows {
		if row.Value > 0 {
			out = append(out, int(row.Value)-1)
		}
		out = append(out, int(row.Value))
	}
	return out
}

// verdict judges anew, as the chapter tells it.
func verdict(t testing.TB, p plan.Plan, r news.Report) Verdict {
	t.Helper()
	tau := fraction(uint64(p.Tau.Num), uint64(p.Tau.Den))
	and := func(a *big.Rat) *big.Rat { return new(big.Rat).Add(a, tau) }
	near, far := true, false
	for _, x := range points(r) {
		f, e := cdf.AtMost(p.Noise, x, p.Prec)
		if e != api.OK || f.P != p.Prec {
			t.Fatal(p.Noise, x, e)
		}
		lo, hi, part := over(t, f.Lo, p.Prec), over(t, f.Hi, p.Prec), part(r, x)
		near = near && part.Cmp(and(lo)) <= 0 && hi.Cmp(and(part)) <= 0
		far = far || part.Cmp(and(hi)) > 0 || lo.Cmp(and(part)) > 0
	}
	switch {
	case far:
		return Reject
	case near:
		return Accept
	}
	return Unclear
}

func TestExample(t *testing.T) {
	judged(t, aPlan(noise.Law{Num: 1, Den: 1}, 1, 1, 8), report(0, 1), Accept)
}

// P26.1: what the numbers of the verdicts are.
func TestNumbers(t *testing.T) {
	for i, v := range []Verdict{None, Accept, Reject, Unclear} {
		if int(v) != i {
			t.Fatal(i, v)
		}
	}
}

// P26.1: each of the four bounds of a point, met just so, and one part of 256 beside it.
func TestBounds(t *testing.T) {
	const prec, whole, tau = 8, 256, 40
	for _, l := range []noise.Law{{Num: 1, Den: 1}, {Num: 4, Den: 5}, {Num: 3, Den: 2, Mu: 0}} {
		p := aPlan(l, tau, whole, prec)
		f, _ := cdf.AtMost(l, 0, prec)
		lo, hi := uint32(f.Lo.Words()[0]), uint32(f.Hi.Words()[0])
		if lo+1 >= hi {
			t.Fatal(lo, hi, "leave nothing between")
		}
		for _, c := range []struct {
			met  uint32 // so many of 256 are 0; all others are 1, where all is near
			want Verdict
		}{
			{lo + tau - 1, Accept}, {lo + tau, Accept}, {lo + tau + 1, Unclear}, {hi + tau - 1, Unclear}, {hi + tau, Unclear}, {hi + tau + 1, Reject},
			{hi - tau + 1, Accept}, {hi - tau, Accept}, {hi - tau - 1, Unclear}, {lo - tau + 1, Unclear}, {lo - tau, Unclear}, {lo - tau - 1, Reject},
			{lo, Accept}, {hi, Accept}, {(lo + hi) / 2, Accept},
		} {
			if c.met >= whole {
				continue
			}
			// How often each was met doesn't matter, just which part.
			for _, times := range []uint32{1, 3, 1 << 23} {
				judged(t, p, report(0, c.met*times, 1, (whole-c.met)*times), c.want)
			}
		}
	}
}

// P26.1: a bound that is passed by ever so little.
func TestHair(t *testing.T) {
	l := noise.Law{Num: 1, Den: 1}
	f, _ := cdf.AtMost(l, 0, 8)
	lo := f.Lo.Words()[0]
	// Of 2^24 so many make up Lo and Tau together, where Tau is 40 over 256.
	just := uint32(lo+40) << 16
	p := aPlan(l, 40, 256, 8)
	judged(t, p, report(0, just, 1, 1<<24-just), Accept)
	judged(t, p, report(0, just+1, 1, 1<<24-just-1), Unclear)
	// Tau itself may be what makes the difference.
	p.Tau = plan.Ratio{Num: 40 << 24, Den: 1<<32 - 1}
	judged(t, p, report(0, just, 1, 1<<24-just), Accept)
	p.Tau = plan.Ratio{Num: 40<<24 - 1, Den: 1<<32 - 1}
	judged(t, p, report(0, just, 1, 1<<24-just), Unclear)
}

// P26.1: what is far at one point is Reject, wherever the point is; what is unclear at one is Unclear, if none is far.
func TestOnePoint(t *testing.T) {
	l := noise.Law{Num: 1, Den: 4, Mu: 20}
	p := aPlan(l, 1, 100, 16)
	const most = 100
	// These are met as often as the law says, all but one of them.
	usual := func(but int, more int64) news.Report {
		var r news.Report
		last := uint64(0)
		for x := range most {
			f, _ := cdf.AtMost(l, x, 40)
			now := f.Lo.Words()[0] >> 20
			times := int64(now-last) + 1
			if x == but {
				times += more
			}
			last = now
			r.Rows = append(r.Rows, news.Row{Value: uint32(x), Times: uint32(max(times, 1))})
		}
		return r
	}
	judged(t, p, usual(0, 0), Accept)
	for but := range most {
		// A twentieth more of one of them is too many, ahead of it or behind.
		judged(t, p, usual(but, 1<<20/20), Reject)
		judged(t, p, usual(but, 1<<20/200), Accept)
	}
	// Only the point one below is far: so many should have been met before.
	judged(t, aPlan(l, 1, 4, 16), report(200, 1), Reject)
	judged(t, aPlan(l, 1, 4, 16), report(20, 1), Reject)
	// Only the value is far: so many should come behind.
	judged(t, aPlan(l, 1, 4, 16), report(0, 1), Reject)
}

// P26.1: an unclear point ahead of a far one, or behind, changes nothing; nor does a near one make up for an unclear one.
func TestUnclear(t *testing.T) {
	sure := noise.Law{Num: 1<<32 - 1, Den: 1, Mu: 5} // all counts are 5, but for ever so few
	p := aPlan(sure, 0, 1, 8)
	judged(t, p, report(5, 1), Unclear)
	judged(t, p, report(5, 7, 6, 1), Reject)
	judged(t, p, report(4, 1, 5, 7), Reject)
	judged(t, p, report(6, 1), Reject)
	p.Tau = plan.Ratio{Num: 1, Den: 256}
	judged(t, p, report(5, 1), Accept)
	judged(t, p, report(4, 1, 5, 255), Accept)
	judged(t, p, report(4, 1, 5, 254), Unclear)
	judged(t, p, report(4, 2, 5, 254), Unclear)
	judged(t, p, report(4, 3, 5, 253), Reject)
	judged(t, p, report(5, 255, 6, 1), Accept) // here the chance is from 255 to 256
	judged(t, p, report(5, 254, 6, 2), Unclear)
	judged(t, p, report(5, 253, 6, 3), Reject)
	judged(t, p, report(4, 2, 5, 252, 9, 2), Unclear)
	judged(t, p, report(4, 2, 5, 200, 9, 54), Reject)
	judged(t, p, report(4, 60, 5, 194, 9, 2), Reject)
}

// P26.1: the plan's Prec says how much is known.
func TestPrec(t *testing.T) {
	l := noise.Law{Num: 1, Den: 1}
	seen := map[Verdict]int{}
	for prec := 8; prec <= 64; prec++ {
		// The chance of 0 is 0.7310585..: the part is ever so little beside it and Tau.
		for _, met := range []uint32{8310585, 8310586} {
			p, r := aPlan(l, 1, 10, prec), report(0, met, 1, 10000000-met)
			judged(t, p, r, verdict(t, p, r))
			v, _ := Judge(p, r)
			seen[v]++
			if prec < 16 && v != Unclear || prec > 40 && v != map[uint32]Verdict{8310585: Accept, 8310586: Reject}[met] {
				t.Fatal(prec, met, v)
			}
		}
	}
	if len(seen) != 3 {
		t.Fatal(seen)
	}
}

// laws are some that may be, small ones and such as come to an end of what is allowed.
func laws() []noise.Law {
	var out []noise.Law
	for _, c := range [][2]uint64{{1, 1}, {1, 2}, {3, 7}, {7, 3}, {1, 100}, {65, 1}, {1<<32 - 1, 1}, {1, 1<<32 - 1}, {1<<32 - 1, 1<<32 - 1}} {
		for _, mu := range []int{0, 1, 40, 1 << 20} {
			out = append(out, noise.Law{Num: c[0], Den: c[1], Mu: mu})
		}
	}
	return out
}

// likely is a report of counts about as often as a law says, but for a bend.
func likely(r *rand.Rand, l noise.Law, n int, bend float64) news.Report {
	met := map[uint32]uint32{}
	for range n {
		z := r.ExpFloat64() * float64(l.Den) / float64(l.Num) * bend
		if r.IntN(2) == 0 {
			z = -z
		}
		met[uint32(min(max(math.Round(float64(l.Mu)+z), 0), 1<<31))]++
	}
	var out news.Report
	for v, times := range met {
		if len(out.Rows) < api.MaxRows {
			out.Rows = append(out.Rows, news.Row{Value: v, Times: times})
		}
	}
	slices.SortFunc(out.Rows, func(a, b news.Row) int { return int(a.Value) - int(b.Value) })
	return out
}

// taus are Taus over 2^31, rising, about where verdicts on a report change.
func taus(t testing.TB, l noise.Law, a news.Report, prec int) []uint32 {
	t.Helper()
	// How far apart the part and the chance are, in all, says where Tau matters.
	apart := farthest(t, l, a, prec)
	var out []uint32
	for by := -6; by <= 6; by++ {
		tau := math.Round((apart + float64(by)/math.Exp2(float64(min(prec, 31)))) * (1 << 31))
		if tau >= 0 {
			out = append(out, uint32(tau))
		}
	}
	return out
}

// P26.1: of any laws, reports, and Taus.
func TestAny(t *testing.T) {
	r := rand.New(rand.NewPCG(26, 1))
	seen := map[Verdict]int{}
	all := laws()
	for range 500 {
		l := all[r.IntN(len(all))]
		a := likely(r, l, 1+r.IntN(1<<(1+r.IntN(6))), math.Exp(r.NormFloat64()))
		prec := 8 + r.IntN(8+r.IntN(50))
		for _, tau := range taus(t, l, a, prec) {
			p := aPlan(l, tau, 1<<31, prec)
			want := verdict(t, p, a)
			judged(t, p, a, want)
			seen[want]++
		}
	}
	if seen[Accept] < 500 || seen[Reject] < 500 || seen[Unclear] < 500 {
		t.Fatal(seen)
	}
}

// farthest is how far the part of a report and the chance are apart, about.
func farthest(t testing.TB, l noise.Law, a news.Report, prec int) float64 {
	t.Helper()
	out := 0.0
	for _, x := range points(a) {
		f, _ := cdf.AtMost(l, x, prec)
		lo, _ := over(t, f.Lo, prec).Float64()
		hi, _ := over(t, f.Hi, prec).Float64()
		e, _ := part(a, x).Float64()
		out = max(out, math.Abs(e-lo), math.Abs(e-hi))
	}
	return out
}

// atMost is the chance that a count is at most x, by floats.
func atMost(l noise.Law, x int) float64 {
	g := float64(l.Num) / float64(l.Den)
	if x < l.Mu {
		return math.Exp(-g*float64(l.Mu-x)) / (1 + math.Exp(-g))
	}
	return 1 - math.Exp(-g*float64(x-l.Mu+1))/(1+math.Exp(-g))
}

// P26.1: a report that is no farther than Tau from what the law says is Accept, one that is farther is Reject, but for the little that the spans leave open.
func TestTrue(t *testing.T) {
	r := rand.New(rand.NewPCG(26, 2))
	for _, l := range laws() {
		for range 20 {
			a := likely(r, l, 1+r.IntN(300), math.Exp(r.NormFloat64()/2))
			apart := 0.0
			for _, x := range points(a) {
				e, _ := part(a, x).Float64()
				apart = max(apart, math.Abs(e-atMost(l, x)))
			}
			// At most 8 over 2^32 are left open (P11.3).
			tau := apart * (1 << 31)
			judged(t, aPlan(l, uint32(tau)+16, 1<<31, 32), a, Accept)
			if tau > 16 {
				judged(t, aPlan(l, uint32(tau)-16, 1<<31, 32), a, Reject)
			}
		}
	}
}

// drawn is a report of n counts by a law.
func drawn(t testing.TB, r *rand.Rand, l noise.Law, n int) news.Report {
	t.Helper()
	bits := make([]byte, 200*n)
	for i := range bits {
		bits[i] = byte(r.Uint32())
	}
	counts, _, e := l.Counts(tape.New(string(bits)), n)
	if e != api.OK {
		t.Fatal(e)
	}
	slices.Sort(counts)
	var out news.Report
	for i, c := range counts {
		if i == 0 || c != counts[i-1] {
			out.Rows = append(out.Rows, news.Row{Value: uint32(c)})
		}
		out.Rows[len(out.Rows)-1].Times++
	}
	return out
}

// P26.1: noise that was drawn by the law is accepted, noise of another law is rejected.
func TestDrawn(t *testing.T) {
	r := rand.New(rand.NewPCG(26, 3))
	l := noise.Law{Num: 1, Den: 5, Mu: 30}
	p := aPlan(l, 1, 20, 32) // a 20th is about 3 times as far as 4000 counts come from what they should be
	for range 20 {
		judged(t, p, drawn(t, r, l, 4000), Accept)
		for _, other := range []noise.Law{{Num: 1, Den: 5, Mu: 28}, {Num: 1, Den: 5, Mu: 32}, {Num: 1, Den: 5}, {Num: 1, Den: 8, Mu: 30}, {Num: 1, Den: 3, Mu: 30}, {Num: 9, Den: 1, Mu: 30}} {
			judged(t, p, drawn(t, r, other, 4000), Reject)
		}
	}
}

// P26.1: the greatest value, and one more; the first of what is wrong.
func TestRange(t *testing.T) {
	p := aPlan(noise.Law{Num: 1, Den: 1, Mu: 3}, 1, 1, 16)
	judged(t, p, report(1<<31, 1), Accept)
	judged(t, p, report(0, 1, 1<<31-1, 1, 1<<31, 5), Accept)
	p.Tau = plan.Ratio{Num: 1, Den: 1000}
	judged(t, p, report(1<<31, 1), Reject)
	for _, r := range []news.Report{report(1<<31+1, 1), report(1<<32-1, 1), report(0, 1, 1<<31+1, 1), report(1<<31, 1, 1<<31+1, 1), report(3, 9, 1<<31, 1, 1<<32-1, 1<<32-1)} {
		wrong(t, p, r, api.ErrRange)
	}
}

// never are reports that may not be.
func never() []news.Report {
	long := news.Report{}
	for i := range uint32(257) {
		long.Rows = append(long.Rows, news.Row{Value: i, Times: 1})
	}
	return []news.Report{
		{}, {Epoch: 4}, {Rows: []news.Row{}}, long, report(0, 0), report(3, 1, 4, 0), report(3, 1, 3, 1), report(4, 1, 3, 1),
		report(1<<31+1, 0), report(1<<32-1, 1, 1<<31+1, 1), report(5, 1, 1<<32-1, 0),
	}
}

// P26.1: ErrForm of a report that may not be, ahead of ErrRange.
func TestForm(t *testing.T) {
	for _, r := range never() {
		wrong(t, aPlan(noise.Law{Num: 1, Den: 1}, 1, 1, 8), r, api.ErrForm)
	}
	// As many rows as may be.
	var r news.Report
	for i := range uint32(256) {
		r.Rows = append(r.Rows, news.Row{Value: i << 23, Times: 1<<32 - 1})
	}
	judged(t, aPlan(noise.Law{Num: 1, Den: 1<<32 - 1, Mu: 1 << 20}, 1, 1, 64), r, Accept)
}

// P26.1: the plan's Check's error, ahead of all others.
func TestPlan(t *testing.T) {
	good := aPlan(noise.Law{Num: 1, Den: 1}, 1, 1, 8)
	broken := func(change func(p *plan.Plan)) plan.Plan {
		p := good
		change(&p)
		return p
	}
	for _, p := range []plan.Plan{
		{},
		broken(func(p *plan.Plan) { p.Prec = 7 }),
		broken(func(p *plan.Plan) { p.Prec = 65 }),
		broken(func(p *plan.Plan) { p.Mode = 2 }),
		broken(func(p *plan.Plan) { p.Mode = plan.Strong }),
		broken(func(p *plan.Plan) { p.Tau.Den = 0 }),
		broken(func(p *plan.Plan) { p.Global.Eps.Den = 0 }),
		broken(func(p *plan.Plan) { p.Noise.Mu = 1<<20 + 1 }),
		broken(func(p *plan.Plan) { p.Noise.Num = 1 << 32 }),
		broken(func(p *plan.Plan) { p.Noise.Den = 0 }),
		broken(func(p *plan.Plan) { p.Classes = nil }),
		broken(func(p *plan.Plan) { p.Classes, p.Contacts = nil, nil }),
		broken(func(p *plan.Plan) { p.Contacts = nil }),
		broken(func(p *plan.Plan) { p.Contacts = []uint64{4, 4} }),
	} {
		want := p.Check()
		if want == api.OK {
			t.Fatal(p)
		}
		for _, r := range append(never(), report(0, 1), report(1<<31+1, 1)) {
			wrong(t, p, r, want)
		}
	}
	if wrong := broken(func(p *plan.Plan) { p.Contacts = nil }).Check(); wrong != api.ErrName {
		t.Fatal(wrong)
	}
}

// P26.1: what else a plan or a report has doesn't matter.
func TestElse(t *testing.T) {
	l := noise.Law{Num: 2, Den: 3, Mu: 4}
	r := rand.New(rand.NewPCG(26, 4))
	for range 200 {
		a := likely(r, l, 50, 1)
		p := aPlan(l, uint32(r.IntN(40)), 100, 8+r.IntN(57))
		want, _ := Judge(p, a)
		a.Epoch = r.Uint32()
		p.Mode, p.Slack = plan.Strong, plan.Ratio{Num: 1, Den: 5}
		p.Length, p.Queue, p.Contacts = 256, 64, []uint64{1, 2, 3}
		p.Classes = append(p.Classes, plan.Cost{Eps: plan.Ratio{Num: 8, Den: 1}, Delta: plan.Ratio{Num: 1, Den: 2}})
		p.Global = plan.Cost{Eps: plan.Ratio{Den: 1}, Delta: plan.Ratio{Den: 1}}
		judged(t, p, a, want)
	}
}

// P26.3: with Tau 1 or more no report is Reject, however far it is.
func TestTauOne(t *testing.T) {
	for _, l := range laws() {
		for _, prec := range []int{8, 9, 33, 63, 64} {
			for _, tau := range []plan.Ratio{{Num: 1, Den: 1}, {Num: 1<<32 - 1, Den: 1<<32 - 1}, {Num: 1<<32 - 1, Den: 1<<32 - 2}, {Num: 2, Den: 1}, {Num: 1<<32 - 1, Den: 1}} {
				p := aPlan(l, 1, 1, prec)
				p.Tau = tau
				for _, r := range []news.Report{report(0, 1), report(1, 1), report(1<<31, 1), report(uint32(l.Mu), 1), report(0, 1, 1<<31, 1<<32-1), report(0, 1<<32-1, 1<<31, 1)} {
					judged(t, p, r, verdict(t, p, r))
					if v, _ := Judge(p, r); v == Reject {
						t.Fatal(l, tau, r)
					}
				}
			}
		}
	}
}

// P26.3: as Tau rises, a report is Reject, then Unclear, then Accept, and goes back to none.
func TestTauRises(t *testing.T) {
	r := rand.New(rand.NewPCG(26, 5))
	order := []Verdict{Reject, Unclear, Accept}
	all := laws()
	for range 200 {
		l := all[r.IntN(len(all))]
		a := likely(r, l, 1+r.IntN(30), math.Exp(r.NormFloat64()))
		prec, at := 8+r.IntN(57), 0
		rising := taus(t, l, a, prec)
		for range 20 {
			rising = append(rising, r.Uint32N(1<<r.IntN(32)))
		}
		slices.Sort(rising)
		for _, tau := range rising {
			v, e := Judge(aPlan(l, tau, 1<<31, prec), a)
			now := slices.Index(order, v)
			if e != api.OK || now < at {
				t.Fatal(l, a, tau, v, e)
			}
			at = now
		}
		// No part is farther than 1 from either end of a span.
		judged(t, aPlan(l, 1, 1, prec), a, Accept)
	}
}

// What is handed in isn't changed, with the room behind its end; the same call answers the same.
func TestNothingIsShared(t *testing.T) {
	rows := []news.Row{{Value: 2, Times: 3}, {Value: 5, Times: 1}, {Value: 1, Times: 9}}
	p := aPlan(noise.Law{Num: 1, Den: 3, Mu: 3}, 1, 5, 20)
	before, contacts, classes := slices.Clone(rows), slices.Clone(p.Contacts), slices.Clone(p.Classes)
	first, _ := Judge(p, news.Report{Rows: rows[:2]})
	for range 3 {
		judged(t, p, news.Report{Rows: rows[:2]}, first)
	}
	if !slices.Equal(rows, before) || !slices.Equal(p.Contacts, contacts) || !slices.Equal(p.Classes, classes) {
		t.Fatal(rows, p)
	}
}
