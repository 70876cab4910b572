package strong

import (
	"math"
	"math/big"
	"math/rand/v2"
	"reflect"
	"slices"
	"testing"

	"chaff/api"
	"chaff/exp"
	"chaff/ln"
	"chaff/nat"
	"chaff/noise"
	"chaff/plan"
	"chaff/rat"
	"chaff/span"
	"chaff/table"
)

// The tests reckon anew by math/big, which the program itself may not call.

const top = math.MaxUint32

func two(n int) *big.Int { return new(big.Int).Lsh(big.NewInt(1), uint(n)) }

// plusSmall is v with a small number added.
func plusSmall(v *big.Int, n int64) *big.Int { return new(big.Int).Add(v, big.NewInt(n)) }

// down and up are v over d, as whole numbers.
func down(v, d *big.Int) *big.Int { return new(big.Int).Div(v, d) }

func up(v, d *big.Int) *big.Int { return down(plusSmall(new(big.Int).Add(v, d), -1), d) }

func toBig(a nat.Nat) *big.Int {
	v := new(big.Int)
	for _, w := range slices.Backward(a.Words()) {
		v.Or(v.Lsh(v, 64), new(big.Int).SetUint64(w))
	}
	return v
}

func fraction(t testing.TB, x *big.Rat) rat.Rat {
	t.Helper()
	a, e := rat.Parse(x.Num().String() + "/" + x.Denom().String())
	if e != api.OK {
		t.Fatal(x, e)
	}
	return a
}

func ratio(n, d uint32) plan.Ratio { return plan.Ratio{Num: n, Den: d} }

func value(r plan.Ratio) *big.Rat { return big.NewRat(int64(r.Num), int64(r.Den)) }

// class is one of an Eps, and of Delta none.
func class(eps plan.Ratio) plan.Cost { return plan.Cost{Eps: eps, Delta: ratio(0, 1)} }

// of is a Strong plan of these.
func of(prec int, slack plan.Ratio, classes ...plan.Cost) plan.Plan {
	one := plan.Cost{Eps: ratio(1, 1), Delta: ratio(1, 1)}
	return plan.Plan{
		Mode: plan.Strong, Prec: prec, Length: 2, Queue: 3, Slack: slack, Global: one, Contact: one, Tau: ratio(1, 1),
		Noise: noise.Law{Num: 1, Den: 2, Mu: 3}, Classes: classes, Contacts: []uint64{10, 20},
	}
}

// random is a number, of all sizes.
func random(r *rand.Rand) uint64 { return r.Uint64() >> r.IntN(64) }

// between is one from least to most.
func between(r *rand.Rand, least, most uint64) uint32 {
	return uint32(least + random(r)%(most-least+1))
}

// some is a random plan.
func some(r *rand.Rand) plan.Plan {
	slack := between(r, 2, top)
	p := of(8+r.IntN(57), ratio(between(r, 1, uint64(slack)/2), slack))
	for range 1 + r.IntN(8) {
		eps, delta := between(r, 1, top), between(r, 1, top)
		c := class(ratio(between(r, 1, min(8*uint64(eps), top)), eps))
		c.Delta = ratio(between(r, 0, uint64(delta)-1), delta)
		p.Classes = append(p.Classes, c)
	}
	return p
}

// widest are classes by which sums have as many bits as they may: no two Dens have a divisor but 1.
func widest() []plan.Cost {
	var out []plan.Cost
	for _, d := range []uint32{4294967291, 4294967279, 4294967231, 4294967197, 4294967189, 4294967161, 4294967143, 4294967111} {
		out = append(out, plan.Cost{Eps: ratio(top, d), Delta: ratio(d-1, d)})
	}
	return out
}

// edges are plans that come to the ends of what is allowed.
func edges() []plan.Plan {
	greatest := plan.Cost{Eps: ratio(1<<32-8, 1<<29-1), Delta: ratio(top-1, top)}
	mixed := []plan.Cost{class(ratio(1, top)), greatest, class(ratio(2, 4)), class(ratio(1, 1<<31))}
	var out []plan.Plan
	for _, prec := range []int{8, 9, 63, 64} {
		for _, slack := range []plan.Ratio{ratio(1, 2), ratio(math.MaxInt32, top-1), ratio(math.MaxInt32, top), ratio(1, 3), ratio(1, top)} {
			for _, classes := range [][]plan.Cost{{class(ratio(1, top))}, {greatest}, slices.Repeat([]plan.Cost{greatest}, 8), mixed, widest()} {
				out = append(out, of(prec, slack, classes...))
			}
		}
	}
	return out
}

// plans are those at the ends, and random ones.
func plans() []plan.Plan {
	out := edges()
	r := rand.New(rand.NewPCG(22, 1))
	for range 60 {
		out = append(out, some(r))
	}
	return out
}

// full is a row of the greatest counts.
func full() table.Row { return table.Row{top, top, top, top, top, top, top, top} }

// someRow is a random row, with counts of classes, too, that a plan may not have.
func someRow(r *rand.Rand) table.Row {
	var out table.Row
	for i := range out {
		if r.IntN(3) > 0 {
			out[i] = uint32(random(r))
		}
	}
	return out
}

// rows are such as a plan's calls are tried with.
func rows(r *rand.Rand) []table.Row {
	out := []table.Row{{}, full(), {1}, {top}, {7: 1}, {1, 1, 1, 1, 1, 1, 1, 1}}
	for range 6 {
		out = append(out, someRow(r))
	}
	return out
}

// made are a plan's consts.
func made(t testing.TB, p plan.Plan) Consts {
	t.Helper()
	c, e := Make(p)
	if e != api.OK {
		t.Fatalf("Make: %v of %+v", e, p)
	}
	return c
}

// alike tells whether two spans are.
func alike(a, b span.Span) bool { return a.P == b.P && a.Lo.Cmp(b.Lo) == 0 && a.Hi.Cmp(b.Hi) == 0 }

// same holds a span against what it should be.
func same(t *testing.T, what string, got span.Span, e api.Errno, lo, hi *big.Int, p int) {
	t.Helper()
	if e != api.OK || toBig(got.Lo).Cmp(lo) != 0 || toBig(got.Hi).Cmp(hi) != 0 || got.P != p || !got.May() {
		t.Fatalf("%s: %v %v, not %v %v %v", what, got, e, lo, hi, p)
	}
}

// idle tells whether a row has no use of a plan's classes.
func idle(p plan.Plan, r table.Row) bool {
	return !slices.ContainsFunc(r[:len(p.Classes)], func(n uint32) bool { return n != 0 })
}

// sum is that, over a plan's classes, of the count times what is told of each.
func sum(p plan.Plan, r table.Row, of func(c plan.Cost) *big.Rat) *big.Rat {
	s := new(big.Rat)
	for i, c := range p.Classes {
		s.Add(s, new(big.Rat).Mul(big.NewRat(int64(r[i]), 1), of(c)))
	}
	return s
}

func squared(c plan.Cost) *big.Rat { return new(big.Rat).Mul(value(c.Eps), value(c.Eps)) }

// side is how an end is rounded: Lo down, Hi up.
type side struct {
	of   func(a span.Span) nat.Nat
	over func(v, d *big.Int) *big.Int
	root func(n *big.Int) *big.Int
}

func low() side {
	return side{func(a span.Span) nat.Nat { return a.Lo }, down, func(n *big.Int) *big.Int { return new(big.Int).Sqrt(n) }}
}

func high() side {
	return side{func(a span.Span) nat.Nat { return a.Hi }, up, func(n *big.Int) *big.Int {
		v := new(big.Int).Sqrt(n)
		if new(big.Int).Mul(v, v).Cmp(n) < 0 {
			v = plusSmall(v, 1)
		}
		return v
	}}
}

// end is that end of the span of Eps by a plan's Prec, as the chapter tells it, of consts by P q.
func (d side) end(p plan.Plan, r table.Row, c Consts, q int) *big.Int {
	times := func(a span.Span, x *big.Rat) *big.Int {
		return d.over(new(big.Int).Mul(toBig(d.of(a)), x.Num()), x.Denom())
	}
	s := sum(p, r, squared)
	v := times(c.Ln, s.Add(s, s))
	v = d.root(v.Mul(v, two(q)))
	for i, class := range p.Classes {
		v.Add(v, times(c.Exps[i], new(big.Rat).Mul(big.NewRat(int64(r[i]), 1), value(class.Eps))))
	}
	return d.over(v, two(q-p.Prec))
}

// told are both ends of that span; of nothing 0.
func told(p plan.Plan, r table.Row, c Consts, q int) (lo, hi *big.Int) {
	if idle(p, r) {
		return new(big.Int), new(big.Int)
	}
	return low().end(p, r, c, q), high().end(p, r, c, q)
}

// P22.2: of nothing.
func TestExample(t *testing.T) {
	p := of(16, ratio(1, 2), class(ratio(1, 2)), class(ratio(1, 4)))
	a, e := made(t, p).Eps(p, table.Row{})
	same(t, "nothing", a, e, new(big.Int), new(big.Int), 16)
}

// P22.1: L, and the E of each class, out of what layers 4 and 5 answer.
func TestMake(t *testing.T) {
	for _, p := range plans() {
		c, q := made(t, p), p.Prec+64
		l, e := ln.Ln(fraction(t, new(big.Rat).Inv(value(p.Slack))), q)
		if e != api.OK || !alike(c.Ln, l) || len(c.Exps) != len(p.Classes) {
			t.Fatalf("L %v, not %v %v; %d classes, of %+v", c.Ln, l, e, len(c.Exps), p)
		}
		for i, class := range p.Classes {
			x, e := exp.Exp(fraction(t, value(class.Eps)), q)
			lo, hi := new(big.Int).Sub(toBig(x.Lo), two(q)), new(big.Int).Sub(toBig(x.Hi), two(q))
			if lo.Sign() < 0 {
				lo = new(big.Int)
			}
			same(t, "E", c.Exps[i], e, lo, hi, q)
		}
	}
}

// P22.2: the span, just as the chapter reckons it.
func TestAsTold(t *testing.T) {
	r := rand.New(rand.NewPCG(22, 2))
	for _, p := range plans() {
		c := made(t, p)
		for _, row := range rows(r) {
			lo, hi := told(p, row, c, p.Prec+64)
			a, e := c.Eps(p, row)
			same(t, "Eps", a, e, lo, hi, p.Prec)
		}
	}
}

// P22.2: of consts by the plan's own Prec, so that nothing is cut: then each number that is rounded on the way tells.
func TestEachStep(t *testing.T) {
	r := rand.New(rand.NewPCG(22, 3))
	for range 3000 {
		p := some(r)
		width := func() span.Span {
			lo := random(r)
			return span.Span{Lo: nat.Of(lo), Hi: nat.Of(max(lo, lo+random(r)>>40)), P: p.Prec}
		}
		c := Consts{Ln: width()}
		for range p.Classes {
			c.Exps = append(c.Exps, width())
		}
		row := someRow(r)
		for i := range row {
			row[i] >>= r.IntN(33)
		}
		lo, hi := told(p, row, c, p.Prec)
		a, e := c.Eps(p, row)
		same(t, "Eps, uncut", a, e, lo, hi, p.Prec)
	}
}

// P22.2: the plain Delta, and the Slack; of nothing none.
func TestDelta(t *testing.T) {
	r := rand.New(rand.NewPCG(22, 4))
	for _, p := range plans() {
		c := made(t, p)
		for _, row := range rows(r) {
			want := new(big.Rat)
			if !idle(p, row) {
				want.Add(value(p.Slack), sum(p, row, func(c plan.Cost) *big.Rat { return value(c.Delta) }))
			}
			if a, e := c.Delta(p, row); e != api.OK || a.String() != want.String() {
				t.Fatalf("Delta of %v: %v %v, not %v, by %+v", row, a, e, want, p)
			}
		}
	}
	p := of(16, ratio(2, 6), class(ratio(1, 2)), plan.Cost{Eps: ratio(1, 4), Delta: ratio(1, 10)})
	for row, want := range map[table.Row]string{{}: "0/1", {1}: "1/3", {top}: "1/3", {0, 1}: "13/30", {5, 2}: "8/15", {0, 0, 9}: "0/1"} {
		if a, e := made(t, p).Delta(p, row); e != api.OK || a.String() != want {
			t.Fatal(row, a, e)
		}
	}
}

// P22.2: counts of classes that the plan hasn't play no part; a row that has no others costs nothing.
func TestOtherClasses(t *testing.T) {
	for _, p := range plans() {
		c := made(t, p)
		for _, within := range []table.Row{{}, {1}, {3, 1, 4, 1, 5, 9, 2, 6}, full()} {
			var only table.Row
			copy(only[:len(p.Classes)], within[:])
			with := only
			for i := len(p.Classes); i < len(with); i++ {
				with[i] = top - uint32(i)
			}
			a, e := c.Eps(p, only)
			b, f := c.Eps(p, with)
			if e != api.OK || f != api.OK || !alike(a, b) {
				t.Fatal("Eps", only, with, a, b, e, f)
			}
			d, e := c.Delta(p, only)
			g, f := c.Delta(p, with)
			if e != api.OK || f != api.OK || d.Cmp(g) != 0 {
				t.Fatal("Delta", only, with, d, g, e, f)
			}
			if idle(p, with) != (b.P == p.Prec && b.Hi.Zero()) || idle(p, with) != g.Zero() {
				t.Fatal("of nothing, or not:", with, b, g)
			}
		}
	}
}

// refused looks whether all calls answer an error, and nothing beside it.
func refused(t *testing.T, what string, p plan.Plan, want api.Errno) {
	t.Helper()
	whole := of(16, ratio(1, 2), class(ratio(1, 2)), class(ratio(1, 4)))
	if c, e := Make(p); e != want || !reflect.ValueOf(c).IsZero() {
		t.Fatalf("%s: Make %v %v, not zero %v", what, c, e, want)
	}
	for _, c := range []Consts{{}, made(t, whole)} {
		for _, r := range []table.Row{{}, {1, 2}, full(), {7: 1}} {
			if s, e := c.Eps(p, r); e != want || !reflect.ValueOf(s).IsZero() {
				t.Fatalf("%s: Eps of %v: %v %v, not zero %v", what, r, s, e, want)
			}
			if d, e := c.Delta(p, r); e != want || !reflect.ValueOf(d).IsZero() {
				t.Fatalf("%s: Delta of %v: %v %v, not zero %v", what, r, d, e, want)
			}
		}
	}
}

// P22.1, P22.2: of a plan that may not be the Check's error, ahead of that of one that isn't Strong.
func TestWrong(t *testing.T) {
	for what, c := range map[string]struct {
		spoil func(p *plan.Plan)
		want  api.Errno
	}{
		"nothing":        {func(p *plan.Plan) {}, api.OK},
		"none":           {func(p *plan.Plan) { *p = plan.Plan{} }, api.ErrRange},
		"Prec below":     {func(p *plan.Plan) { p.Prec = 7 }, api.ErrRange},
		"Prec above":     {func(p *plan.Plan) { p.Prec = 65 }, api.ErrRange},
		"Prec far below": {func(p *plan.Plan) { p.Prec = math.MinInt }, api.ErrRange},
		"Prec far above": {func(p *plan.Plan) { p.Prec = math.MaxInt }, api.ErrRange},
		"Length":         {func(p *plan.Plan) { p.Length = 0 }, api.ErrRange},
		"Tau":            {func(p *plan.Plan) { p.Tau.Den, p.Classes = 0, nil }, api.ErrRange},
		"no classes":     {func(p *plan.Plan) { p.Classes, p.Contacts = nil, nil }, api.ErrClass},
		"nine classes":   {func(p *plan.Plan) { p.Classes = slices.Repeat(p.Classes[:1], 9) }, api.ErrClass},
		"many classes":   {func(p *plan.Plan) { p.Classes = slices.Repeat(p.Classes[:1], 1<<16) }, api.ErrClass},
		"Eps 0":          {func(p *plan.Plan) { p.Classes[1].Eps.Num = 0 }, api.ErrClass},
		"Eps of Den 0":   {func(p *plan.Plan) { p.Classes[1].Eps.Den = 0 }, api.ErrClass},
		"Eps above 8":    {func(p *plan.Plan) { p.Classes[0].Eps = ratio(17, 2) }, api.ErrClass},
		"Delta 1":        {func(p *plan.Plan) { p.Classes[0].Delta = ratio(1, 1) }, api.ErrClass},
		"no contacts":    {func(p *plan.Plan) { p.Contacts = nil }, api.ErrName},
		"contacts":       {func(p *plan.Plan) { p.Contacts = []uint64{3, 3} }, api.ErrName},
	} {
		for _, mode := range []plan.Mode{plan.Strong, plan.Basic} {
			p := of(16, ratio(1, 2), class(ratio(1, 2)), class(ratio(1, 4)))
			p.Mode = mode
			c.spoil(&p)
			switch {
			case c.want != api.OK:
				refused(t, what, p, c.want)
			case mode == plan.Basic:
				refused(t, what, p, api.ErrState)
				p.Slack = plan.Ratio{}
				refused(t, what, p, api.ErrState)
			}
		}
	}
	for _, slack := range []plan.Ratio{{}, ratio(0, 1), ratio(1, 0), ratio(2, 3), ratio(1, 1), ratio(1<<31, top)} {
		refused(t, "Slack", of(16, slack, class(ratio(1, 2))), api.ErrRange)
	}
	p := of(16, ratio(1, 2), class(ratio(1, 2)))
	p.Mode = 2
	refused(t, "Mode", p, api.ErrRange)
}

// bits are how many the floats have by which the real numbers are reckoned.
const bits = 600

func float(x *big.Rat) *big.Float { return new(big.Float).SetPrec(bits).SetRat(x) }

func small(n int64) *big.Float { return new(big.Float).SetPrec(bits).SetInt64(n) }

func product(a, b *big.Float) *big.Float { return new(big.Float).Mul(a, b) }

// power is e to an x that is from 0 to 8.
func power(x *big.Float) *big.Float {
	term, s := small(1), small(1)
	for k := range int64(400) {
		term = product(term, new(big.Float).Quo(x, small(k+1)))
		s.Add(s, term)
	}
	return s
}

// logarithm is that of a y from 1 to 2: twice the row of (y less 1) over (y and 1).
func logarithm(y *big.Float) *big.Float {
	u := new(big.Float).Quo(new(big.Float).Sub(y, small(1)), new(big.Float).Add(y, small(1)))
	square, s := product(u, u), small(0)
	for j := range int64(300) {
		s.Add(s, new(big.Float).Quo(u, small(2*j+1)))
		u = product(u, square)
	}
	return product(s, small(2))
}

// truth is the strong Eps of a row that isn't idle, over the real numbers, with an error far below all that is looked at.
func truth(p plan.Plan, r table.Row) *big.Float {
	m := new(big.Float)
	k := float(new(big.Rat).Inv(value(p.Slack))).MantExp(m)
	l := product(small(int64(k-1)), logarithm(small(2)))
	l.Add(l, logarithm(product(m, small(2))))
	s := float(sum(p, r, squared))
	out := new(big.Float).Sqrt(product(small(2), product(s, l)))
	for i, c := range p.Classes {
		eps := float(value(c.Eps))
		grown := new(big.Float).Sub(power(eps), small(1))
		out.Add(out, product(small(int64(r[i])), product(eps, grown)))
	}
	return out
}

// P22.3: the real number is in its span, which is at most 2 wide.
func TestIn(t *testing.T) {
	r := rand.New(rand.NewPCG(22, 5))
	for _, p := range plans() {
		c := made(t, p)
		for _, row := range rows(r) {
			a, e := c.Eps(p, row)
			if e != api.OK {
				t.Fatal(e)
			}
			wide := new(big.Int).Sub(toBig(a.Hi), toBig(a.Lo))
			if idle(p, row) {
				continue
			}
			v := product(truth(p, row), new(big.Float).SetInt(two(p.Prec)))
			lo, hi := new(big.Float).SetInt(toBig(a.Lo)), new(big.Float).SetInt(toBig(a.Hi))
			if lo.Cmp(v) > 0 || hi.Cmp(v) < 0 || wide.Cmp(big.NewInt(2)) > 0 {
				t.Fatalf("%v of %v isn't in %v, by %+v", v, row, a, p)
			}
		}
	}
}

// known is a strong Eps times 2^64, down, reckoned elsewhere.
type known struct {
	slack  plan.Ratio
	eps    []plan.Ratio
	counts table.Row
	want   string
}

func elsewhere() []known {
	return []known{
		{ratio(1, 2), []plan.Ratio{ratio(1, 2)}, table.Row{1}, "16843088305470240585"},
		{ratio(1, 2), []plan.Ratio{ratio(1, 2), ratio(1, 3)}, table.Row{1, 2}, "25773788974918618703"},
		{ratio(1, 1000000), []plan.Ratio{ratio(1, 10), ratio(1, 100), ratio(1, 1)}, table.Row{100, 3000, 1}, "203714884028064589199"},
		{ratio(1, top), []plan.Ratio{ratio(1, top)}, table.Row{1}, "28606358623"},
		{ratio(1, 2), []plan.Ratio{ratio(1, top)}, table.Row{1}, "5056937542"},
		{ratio(1, top), slices.Repeat([]plan.Ratio{ratio(8, 1)}, 8), full(), "15110182302390675140752062241681319"},
		{ratio(math.MaxInt32, top-1), []plan.Ratio{ratio(8, 1)}, table.Row{top}, "1888772776411623382103191180456149"},
		{ratio(3, 7), []plan.Ratio{ratio(355, 113), ratio(1, 97)}, table.Row{12345, 678910}, "15849608361092745099043957"},
	}
}

// P22.3: numbers that were reckoned elsewhere, by each Prec.
func TestKnown(t *testing.T) {
	for _, k := range elsewhere() {
		n, _ := new(big.Int).SetString(k.want, 10)
		for prec := 8; prec <= 64; prec++ {
			p := of(prec, k.slack)
			for _, eps := range k.eps {
				p.Classes = append(p.Classes, class(eps))
			}
			lo := down(n, two(64-prec))
			a, e := made(t, p).Eps(p, k.counts)
			same(t, "known", a, e, lo, plusSmall(lo, 1), prec)
		}
	}
}

// costsNoLess looks whether a row costs no less than another one.
func costsNoLess(t *testing.T, c Consts, p plan.Plan, more, less table.Row) {
	t.Helper()
	a, e := c.Eps(p, less)
	b, f := c.Eps(p, more)
	if e != api.OK || f != api.OK || b.Lo.Cmp(a.Lo) < 0 || b.Hi.Cmp(a.Hi) < 0 {
		t.Fatalf("Eps of %v: %v %v; of %v: %v %v, by %+v", less, a, e, more, b, f, p)
	}
	d, e := c.Delta(p, less)
	g, f := c.Delta(p, more)
	if e != api.OK || f != api.OK || g.Cmp(d) < 0 {
		t.Fatalf("Delta of %v: %v %v; of %v: %v %v, by %+v", less, d, e, more, g, f, p)
	}
}

// P22.3: what is used more costs no less: use by use from nothing on, and any row and a greater one.
func TestRises(t *testing.T) {
	r := rand.New(rand.NewPCG(22, 6))
	for _, p := range plans() {
		c := made(t, p)
		var row table.Row
		for range 30 {
			was := row
			row[r.IntN(len(p.Classes))]++
			costsNoLess(t, c, p, row, was)
		}
		for range 10 {
			was := someRow(r)
			now := was
			for i := range now {
				now[i] += uint32(random(r) % (top - uint64(now[i]) + 1))
			}
			costsNoLess(t, c, p, now, was)
			costsNoLess(t, c, p, full(), now)
			costsNoLess(t, c, p, was, table.Row{})
		}
	}
}

// R2: behind the first step that goes wrong no other one is done, and nothing is answered beside its error.
func TestAlong(t *testing.T) {
	done := 0
	good := func(n int) (int, api.Errno) { done++; return n + 1, api.OK }
	bad := func(n int) (int, api.Errno) { return n + 100, api.ErrLimit }
	for _, c := range []struct {
		steps      []step[int]
		want, done int
		fault      api.Errno
	}{
		{nil, 7, 0, api.OK},
		{[]step[int]{good, good, good}, 10, 3, api.OK},
		{[]step[int]{bad}, 0, 0, api.ErrLimit},
		{[]step[int]{good, bad, good, good}, 0, 1, api.ErrLimit},
		{[]step[int]{good, good, bad}, 0, 2, api.ErrLimit},
	} {
		done = 0
		if n, e := along(7, c.steps...); n != c.want || e != c.fault || done != c.done {
			t.Fatal(n, e, done, c.want, c.fault, c.done)
		}
	}
	for what, next := range map[string]step[Consts]{
		"a Slack of 0": withLn(ratio(0, 1), 72), "a Slack above 1": withLn(ratio(2, 1), 72), "a P beyond Ln's": withLn(ratio(1, 2), 129),
		"an Eps of Den 0": withExp(ratio(1, 0), 72), "an Eps above 64": withExp(ratio(65, 1), 72), "a P beyond Exp's": withExp(ratio(1, 2), 129),
	} {
		c, e := along(Consts{Exps: []span.Span{one(72)}}, next)
		if e == api.OK || !reflect.ValueOf(c).IsZero() {
			t.Fatal(what, c, e)
		}
	}
}

// R1, R6: of other consts nothing is promised, but that the calls end and don't panic; and R2 holds of what they answer.
func TestOtherConsts(t *testing.T) {
	most, _ := nat.Parse(plusSmall(two(api.MaxBits), -1).String())
	var odd []span.Span
	for _, p := range []int{math.MinInt, -1, 0, 8, 79, 80, 81, span.Deepest, span.Deepest + 1, math.MaxInt} {
		odd = append(odd, span.Span{P: p}, span.Span{Lo: nat.Of(1), P: p}, span.Span{Lo: most, Hi: most, P: p}, span.Span{Hi: nat.Of(9), P: p})
	}
	p := of(16, ratio(1, 2), class(ratio(1, 2)), plan.Cost{Eps: ratio(1, 4), Delta: ratio(1, 5)})
	right := made(t, p)
	for _, s := range append(odd, right.Ln) {
		for _, u := range append(odd, right.Exps[0]) {
			for _, es := range [][]span.Span{nil, {}, {u}, {u, u}, {u, right.Exps[1]}, {right.Exps[0], u}, {u, u, u}, slices.Repeat([]span.Span{u}, 20)} {
				c := Consts{s, es}
				for _, r := range []table.Row{{}, {1}, {0, 1}, full()} {
					a, e := c.Eps(p, r)
					if e != api.OK && !reflect.ValueOf(a).IsZero() {
						t.Fatal(c, r, a, e)
					}
					// Delta asks for none of them.
					d, e := c.Delta(p, r)
					want, _ := right.Delta(p, r)
					if e != api.OK || d.Cmp(want) != 0 {
						t.Fatal(c, r, d, e)
					}
				}
			}
		}
	}
}

// What is handed in is not changed, what is handed out is new, and the same call answers the same.
func TestNothingIsShared(t *testing.T) {
	fresh := func() plan.Plan {
		return of(20, ratio(2, 6), class(ratio(6, 4)), plan.Cost{Eps: ratio(1, 3), Delta: ratio(1, 7)})
	}
	p, r := fresh(), table.Row{1, 2, 3}
	c := made(t, p)
	first, _ := c.Eps(p, r)
	for range 2 {
		other := made(t, p)
		for i := range other.Exps {
			if !alike(other.Exps[i], c.Exps[i]) {
				t.Fatal(other, c)
			}
			clear(other.Exps[i].Lo.Words())
			other.Exps[i] = span.Span{}
		}
		a, e := c.Eps(p, r)
		if e != api.OK || !alike(a, first) {
			t.Fatal(a, first, e)
		}
		clear(a.Lo.Words())
		d, e := c.Delta(p, r)
		if e != api.OK || d.String() != "13/21" {
			t.Fatal(d, e)
		}
	}
	if !reflect.DeepEqual(p, fresh()) || r != (table.Row{1, 2, 3}) || !reflect.DeepEqual(c, made(t, p)) {
		t.Fatal(p, r, c)
	}
}
