package purse

import (
	"math"
	"math/big"
	"math/rand/v2"
	"reflect"
	"slices"
	"testing"

	"chaff/api"
	"chaff/nat"
	"chaff/noise"
	"chaff/plan"
	"chaff/rat"
	"chaff/strong"
	"chaff/table"
)

// The tests reckon anew by math/big, which the program itself may not call.

const top = math.MaxUint32

func two(n int) *big.Int { return new(big.Int).Lsh(big.NewInt(1), uint(n)) }

func toBig(a nat.Nat) *big.Int {
	v := new(big.Int)
	for _, w := range slices.Backward(a.Words()) {
		v.Or(v.Lsh(v, 64), new(big.Int).SetUint64(w))
	}
	return v
}

func toRat(a rat.Rat) *big.Rat { return new(big.Rat).SetFrac(toBig(a.Num()), toBig(a.Den())) }

func number(t testing.TB, v *big.Int) nat.Nat {
	t.Helper()
	a, e := nat.Parse(v.String())
	if e != api.OK {
		t.Fatal(v, e)
	}
	return a
}

func fraction(t testing.TB, x *big.Rat) rat.Rat {
	t.Helper()
	a, e := rat.Parse(x.Num().String() + "/" + x.Denom().String())
	if e != api.OK {
		t.Fatal(x, e)
	}
	return a
}

func ratio(n, d uint32) plan.Ratio { return plan.Ratio{Num: n, Den: d} }

func value(r plan.Ratio) *big.Rat { return big.NewRat(int64(r.Num), int64(r.Den)) }

// cost is one of Eps a over b and Delta c over d.
func cost(a, b, c, d uint32) plan.Cost { return plan.Cost{Eps: ratio(a, b), Delta: ratio(c, d)} }

// loose is a cap that nothing comes to, but by all counts at their greatest.
func loose() plan.Cost { return cost(top, 1, top, 1) }

// of is a plan with loose caps and two contacts, Basic or Strong.
func of(mode plan.Mode, prec int, classes ...plan.Cost) plan.Plan {
	return plan.Plan{
		Mode: mode, Prec: prec, Length: 2, Queue: 3, Slack: ratio(1, 3), Global: loose(), Contact: loose(), Tau: ratio(1, 1),
		Noise: noise.Law{Num: 1, Den: 2, Mu: 3}, Classes: classes, Contacts: []uint64{10, 20},
	}
}

// capped is a plan with these caps.
func capped(p plan.Plan, global, contact plan.Cost) plan.Plan {
	p.Global, p.Contact = global, contact
	return p
}

// made is a plan's purse.
func made(t testing.TB, p plan.Plan) Purse {
	t.Helper()
	u, e := New(p)
	if e != api.OK {
		t.Fatalf("New: %v of %+v", e, p)
	}
	return u
}

// random is a number, of all sizes.
func random(r *rand.Rand) uint64 { return r.Uint64() >> r.IntN(64) }

// between is one from least to most.
func between(r *rand.Rand, least, most uint64) uint32 {
	return uint32(least + random(r)%(most-least+1))
}

// some is a random ratio.
func some(r *rand.Rand) plan.Ratio { return ratio(between(r, 0, top), between(r, 1, top)) }

// somePlan is a random plan that may be.
func somePlan(r *rand.Rand) plan.Plan {
	p := of(plan.Mode(r.IntN(2)), 8+r.IntN(57))
	slack := between(r, 2, top)
	p.Slack = ratio(between(r, 1, uint64(slack)/2), slack)
	p.Global, p.Contact = plan.Cost{Eps: some(r), Delta: some(r)}, plan.Cost{Eps: some(r), Delta: some(r)}
	for range 1 + r.IntN(8) {
		eps, delta := between(r, 1, top), between(r, 1, top)
		p.Classes = append(p.Classes, cost(between(r, 1, min(8*uint64(eps), top)), eps, between(r, 0, uint64(delta)-1), delta))
	}
	p.Contacts = nil
	for i := range uint64(1 + r.IntN(16)) {
		p.Contacts = append(p.Contacts, 7*i)
	}
	return p
}

// edges are plans that come to the ends of what is allowed.
func edges() []plan.Plan {
	greatest := cost(1<<32-8, 1<<29-1, top-1, top)
	apart := []plan.Cost{}
	// No two of these Dens have a divisor but 1, so that sums have as many bits as they may.
	for _, d := range []uint32{4294967291, 4294967279, 4294967231, 4294967197, 4294967189, 4294967161, 4294967143, 4294967111} {
		apart = append(apart, cost(top, d, d-1, d))
	}
	var out []plan.Plan
	for _, prec := range []int{8, 9, 63, 64} {
		for _, mode := range []plan.Mode{plan.Basic, plan.Strong} {
			for _, classes := range [][]plan.Cost{{cost(1, top, 0, top)}, {greatest}, slices.Repeat([]plan.Cost{greatest}, 8), {cost(8, 1, 1, 2), cost(1, 1<<31, 1, top)}, apart} {
				p := of(mode, prec, classes...)
				p.Slack = ratio(1, top)
				out = append(out, p)
			}
		}
	}
	return out
}

// plans are those at the ends, and random ones.
func plans() []plan.Plan {
	out := edges()
	r := rand.New(rand.NewPCG(23, 1))
	for range 150 {
		out = append(out, somePlan(r))
	}
	return out
}

// full is a row of the greatest counts.
func full() table.Row { return table.Row{top, top, top, top, top, top, top, top} }

// someRow is a random row, with counts of classes, too, that a plan may not have.
func someRow(r *rand.Rand) table.Row {
	var out table.Row
	for i := range out {
		if r.IntN(3) > 0 {
			out[i] = uint32(random(r))
		}
	}
	return out
}

// rows are such as costs are asked of.
func rows(r *rand.Rand) []table.Row {
	return []table.Row{{}, full(), {1}, {top}, {7: 1}, {1, 1, 1, 1, 1, 1, 1, 1}, someRow(r), someRow(r), someRow(r)}
}

// sum is that, over a plan's classes, of the count times what is told of each.
func sum(p plan.Plan, r table.Row, of func(c plan.Cost) *big.Rat) *big.Rat {
	s := new(big.Rat)
	for i, c := range p.Classes {
		s.Add(s, new(big.Rat).Mul(big.NewRat(int64(r[i]), 1), of(c)))
	}
	return s
}

func epsOf(c plan.Cost) *big.Rat { return value(c.Eps) }

func deltaOf(c plan.Cost) *big.Rat { return value(c.Delta) }

func squareOf(c plan.Cost) *big.Rat { return new(big.Rat).Mul(value(c.Eps), value(c.Eps)) }

// idle tells whether a row has no use of a plan's classes.
func idle(p plan.Plan, r table.Row) bool {
	return !slices.ContainsFunc(r[:len(p.Classes)], func(n uint32) bool { return n != 0 })
}

// scaled is x times 2^p, up.
func scaled(x *big.Rat, p int) *big.Int {
	n := new(big.Int).Mul(x.Num(), two(p))
	n.Add(n, x.Denom())
	return n.Sub(n, big.NewInt(1)).Div(n, x.Denom())
}

// constsOf are what layer 22 answers of a plan that is Strong, and none of a Basic one.
func constsOf(t testing.TB, p plan.Plan) strong.Consts {
	t.Helper()
	if p.Mode == plan.Basic {
		return strong.Consts{}
	}
	c, e := strong.Make(p)
	if e != api.OK {
		t.Fatalf("Make: %v of %+v", e, p)
	}
	return c
}

// told is what a row costs, as the chapter tells it: of a plan that is Strong by what layer 22 answers.
func told(t testing.TB, p plan.Plan, c strong.Consts, r table.Row) (eps *big.Int, delta *big.Rat) {
	t.Helper()
	delta = sum(p, r, deltaOf)
	if p.Mode == plan.Basic {
		return scaled(sum(p, r, epsOf), p.Prec), delta
	}
	if idle(p, r) {
		return new(big.Int), new(big.Rat)
	}
	s, e := c.Eps(p, r)
	if e != api.OK {
		t.Fatal(e)
	}
	return toBig(s.Hi), delta.Add(delta, value(p.Slack))
}

// within is whether such a spend is within a cost whose Dens aren't 0.
func within(eps *big.Int, delta *big.Rat, prec int, c plan.Cost) bool {
	return new(big.Rat).SetFrac(eps, two(prec)).Cmp(value(c.Eps)) <= 0 && delta.Cmp(value(c.Delta)) <= 0
}

// affords is whether a table affords a use, as the chapter tells it.
func affords(t testing.TB, p plan.Plan, c strong.Consts, x table.Table, contact, class int) bool {
	t.Helper()
	if contact < 0 || contact >= len(p.Contacts) || class < 0 || class >= len(p.Classes) || x.Global[class] == top || x.Rows[contact][class] == top {
		return false
	}
	x.Global[class]++
	x.Rows[contact][class]++
	eps, delta := told(t, p, c, x.Global)
	own, ownDelta := told(t, p, c, x.Rows[contact])
	return within(eps, delta, p.Prec, p.Global) && within(own, ownDelta, p.Prec, p.Contact)
}

// used is a table of so many uses by contact 0, and then by contact 1.
func used(rows ...table.Row) table.Table {
	var x table.Table
	for contact, r := range rows {
		x.Rows[contact] = r
		for class, n := range r {
			x.Global[class] += n
		}
	}
	return x
}

// yields holds Affords against what it should answer.
func yields(t *testing.T, u Purse, x table.Table, contact, class int, want bool) {
	t.Helper()
	if u.Affords(x, contact, class) != want {
		t.Fatalf("Affords(%d, %d) isn't %v of %v by %+v", contact, class, want, x, u.Plan())
	}
}

// asTold holds Affords and Dry against what the chapter tells, of all contacts and classes that a table may have, and of some that none has.
func asTold(t *testing.T, p plan.Plan, x table.Table) (afforded int) {
	t.Helper()
	u, c := made(t, p), constsOf(t, p)
	for contact := -1; contact <= min(len(p.Contacts)+1, 17); contact++ {
		dry := true
		for class := -1; class <= 9; class++ {
			want := affords(t, p, c, x, contact, class)
			yields(t, u, x, contact, class, want)
			if want {
				dry = false
				afforded++
			}
		}
		if u.Dry(x, contact) != dry {
			t.Fatalf("Dry(%d) isn't %v of %v by %+v", contact, dry, x, p)
		}
	}
	return afforded
}

// The chapter's example.
func TestExample(t *testing.T) {
	c := cost(1, 1, 0, 1)
	u := made(t, capped(of(plan.Basic, 16, cost(1, 2, 0, 1)), c, c))
	yields(t, u, used(), 0, 0, true)
	yields(t, u, used(table.Row{1}), 0, 0, true)
	yields(t, u, used(table.Row{2}), 0, 0, false)
	if u.Dry(used(table.Row{1}), 0) || !u.Dry(used(table.Row{2}), 0) {
		t.Fatal("dry behind the second use, not ahead of it")
	}
}

// P23.1: a purse has its plan, whatever a plan has that may be.
func TestPlan(t *testing.T) {
	all := plans()
	for _, slack := range []plan.Ratio{{}, ratio(5, 0), ratio(2, 1)} {
		p := of(plan.Basic, 16, cost(1, 2, 0, 1))
		p.Slack = slack
		all = append(all, p)
	}
	for _, p := range all {
		u := made(t, p)
		if !reflect.DeepEqual(u.Plan(), p) || !reflect.DeepEqual(u.Plan(), p) {
			t.Fatalf("%+v, not %+v", u.Plan(), p)
		}
	}
}

// P23.1: of a plan that may not be, the Check's error, with its order, and no purse.
func TestWrong(t *testing.T) {
	for what, c := range map[string]struct {
		spoil func(p *plan.Plan)
		want  api.Errno
	}{
		"none":            {func(p *plan.Plan) { *p = plan.Plan{} }, api.ErrRange},
		"Mode":            {func(p *plan.Plan) { p.Mode = 2 }, api.ErrRange},
		"Mode below":      {func(p *plan.Plan) { p.Mode = -1 }, api.ErrRange},
		"Prec":            {func(p *plan.Plan) { p.Prec = 7 }, api.ErrRange},
		"Prec above":      {func(p *plan.Plan) { p.Prec = 65 }, api.ErrRange},
		"Length":          {func(p *plan.Plan) { p.Length = 257 }, api.ErrRange},
		"Queue":           {func(p *plan.Plan) { p.Queue = 0 }, api.ErrRange},
		"Global":          {func(p *plan.Plan) { p.Global.Eps.Den = 0 }, api.ErrRange},
		"Contact":         {func(p *plan.Plan) { p.Contact.Delta.Den = 0 }, api.ErrRange},
		"Tau":             {func(p *plan.Plan) { p.Tau.Den, p.Classes = 0, nil }, api.ErrRange},
		"Noise":           {func(p *plan.Plan) { p.Noise.Mu, p.Contacts = -1, nil }, api.ErrRange},
		"no classes":      {func(p *plan.Plan) { p.Classes, p.Contacts = nil, nil }, api.ErrClass},
		"nine classes":    {func(p *plan.Plan) { p.Classes = slices.Repeat(p.Classes[:1], 9) }, api.ErrClass},
		"Eps 0":           {func(p *plan.Plan) { p.Classes[1].Eps.Num = 0 }, api.ErrClass},
		"Eps above 8":     {func(p *plan.Plan) { p.Classes[0].Eps = ratio(17, 2) }, api.ErrClass},
		"Delta 1":         {func(p *plan.Plan) { p.Classes[1].Delta = ratio(1, 1) }, api.ErrClass},
		"no contacts":     {func(p *plan.Plan) { p.Contacts = nil }, api.ErrName},
		"contacts alike":  {func(p *plan.Plan) { p.Contacts = []uint64{7, 7} }, api.ErrName},
		"contacts behind": {func(p *plan.Plan) { p.Contacts[1] = 9 }, api.ErrName},
	} {
		for _, mode := range []plan.Mode{plan.Basic, plan.Strong} {
			p := of(mode, 16, cost(1, 2, 0, 1), cost(1, 3, 1, 10))
			c.spoil(&p)
			if u, e := New(p); e != c.want || !reflect.ValueOf(u).IsZero() {
				t.Fatalf("%s: %v %v, not zero %v", what, u, e, c.want)
			}
		}
	}
	for _, slack := range []plan.Ratio{{}, ratio(0, 1), ratio(1, 0), ratio(2, 3)} {
		p := of(plan.Strong, 16, cost(1, 2, 0, 1))
		p.Slack = slack
		if u, e := New(p); e != api.ErrRange || !reflect.ValueOf(u).IsZero() {
			t.Fatal("Slack", slack, u, e)
		}
	}
}

// P23.1: what rows cost, by both Modes.
func TestSpend(t *testing.T) {
	r := rand.New(rand.NewPCG(23, 2))
	for _, p := range plans() {
		u, c := made(t, p), constsOf(t, p)
		for _, row := range rows(r) {
			eps, delta := told(t, p, c, row)
			s, e := u.Spend(row)
			if e != api.OK || toBig(s.Eps).Cmp(eps) != 0 || s.Delta.String() != delta.String() {
				t.Fatalf("%v: %v %v, not %v %v, by %+v", row, s, e, eps, delta, p)
			}
			if idle(p, row) && !(s.Eps.Zero() && s.Delta.Zero()) {
				t.Fatal("of nothing:", row, s)
			}
		}
	}
}

// P23.1: the Eps is rounded up, and its Delta not at all; numbers of Strong ones were reckoned elsewhere.
func TestSpendKnown(t *testing.T) {
	for _, c := range []struct {
		mode       plan.Mode
		prec       int
		slack      plan.Ratio
		classes    []plan.Cost
		row        table.Row
		eps, delta string
	}{
		{plan.Basic, 8, ratio(1, 2), []plan.Cost{cost(1, 2, 0, 1), cost(1, 3, 1, 10)}, table.Row{1, 2}, "299", "1/5"},
		{plan.Basic, 8, ratio(1, 2), []plan.Cost{cost(1, 3, 0, 1)}, table.Row{1}, "86", "0/1"},
		{plan.Basic, 8, ratio(1, 2), []plan.Cost{cost(1, 3, 0, 1)}, table.Row{3}, "256", "0/1"},
		{plan.Basic, 8, ratio(1, 2), []plan.Cost{cost(1, top, 1, top)}, table.Row{1}, "1", "1/4294967295"},
		{plan.Basic, 64, ratio(1, 2), []plan.Cost{cost(8, 1, 1, 2)}, table.Row{top}, "633825299966540748158675189760", "4294967295/2"},
		{plan.Strong, 16, ratio(1, 2), []plan.Cost{cost(1, 2, 0, 1)}, table.Row{1}, "59839", "1/2"},
		{plan.Strong, 64, ratio(1, 2), []plan.Cost{cost(1, 2, 1, 4)}, table.Row{1}, "16843088305470240586", "3/4"},
		{plan.Strong, 64, ratio(1, 2), []plan.Cost{cost(1, 2, 1, 8), cost(1, 3, 1, 16)}, table.Row{1, 2}, "25773788974918618704", "3/4"},
		{plan.Strong, 64, ratio(1, top), []plan.Cost{cost(1, top, 0, 1)}, table.Row{1}, "28606358624", "1/4294967295"},
		{plan.Strong, 64, ratio(1, 2), []plan.Cost{cost(1, 2, 1, 4)}, table.Row{0, 9}, "0", "0/1"},
	} {
		p := of(c.mode, c.prec, c.classes...)
		p.Slack = c.slack
		if s, e := made(t, p).Spend(c.row); e != api.OK || s.Eps.String() != c.eps || s.Delta.String() != c.delta {
			t.Fatalf("%v: %v %v, not %s %s, by %+v", c.row, s, e, c.eps, c.delta, p)
		}
	}
}

// P23.1: counts of classes that the plan hasn't cost nothing.
func TestSpendOtherClasses(t *testing.T) {
	for _, p := range plans() {
		u := made(t, p)
		for _, within := range []table.Row{{}, {1}, {3, 1, 4, 1, 5, 9, 2, 6}} {
			var only table.Row
			copy(only[:len(p.Classes)], within[:])
			with := only
			for i := len(p.Classes); i < len(with); i++ {
				with[i] = top - uint32(i)
			}
			a, e := u.Spend(only)
			b, f := u.Spend(with)
			if e != api.OK || f != api.OK || a.Eps.Cmp(b.Eps) != 0 || a.Delta.Cmp(b.Delta) != 0 {
				t.Fatal(only, with, a, b, e, f)
			}
		}
	}
}

// R2: where something goes wrong on the way to a cost, the first of it is told, and nothing beside it.
func TestSpent(t *testing.T) {
	half, _ := rat.Of(1, 2)
	for _, c := range []struct {
		faults []api.Errno
		want   api.Errno
	}{
		{[]api.Errno{api.OK, api.OK, api.OK}, api.OK},
		{[]api.Errno{api.ErrLimit, api.OK}, api.ErrLimit},
		{[]api.Errno{api.OK, api.ErrRange}, api.ErrRange},
		{[]api.Errno{api.OK, api.ErrRange, api.ErrLimit}, api.ErrRange},
	} {
		s, e := spent(nat.Of(5), half, c.faults...)
		known := s.Eps.String() == "5" && s.Delta.Cmp(half) == 0
		if e != c.want || known != (e == api.OK) || e != api.OK && !reflect.ValueOf(s).IsZero() {
			t.Fatal(c.faults, s, e)
		}
	}
}

// P23.2: Within, at a cost, a hair above it and a hair below, by each Prec.
func TestWithinEdges(t *testing.T) {
	costs := []plan.Cost{cost(1, 1, 1, 2), cost(1, 3, 1, 3), cost(0, 1, 0, 1), cost(0, top, 0, top), cost(1, top, 1, top), cost(top, 1, top, 1), cost(top, top-1, top-1, top), cost(2, 4, 3, 6), cost(355, 113, 1, 100)}
	for prec := 8; prec <= 64; prec++ {
		u := made(t, of(plan.Mode(prec%2), prec, cost(1, 2, 0, 1)))
		for _, c := range costs {
			most := new(big.Int).Mul(value(c.Eps).Num(), two(prec))
			most.Div(most, value(c.Eps).Denom())
			hair := new(big.Rat).SetFrac(big.NewInt(1), two(500))
			for by := int64(-1); by <= 1; by++ {
				eps := new(big.Int).Add(most, big.NewInt(by))
				delta := new(big.Rat).Mul(hair, big.NewRat(by, 1))
				delta.Add(delta, value(c.Delta))
				if eps.Sign() >= 0 && u.Within(Spend{number(t, eps), rat.Rat{}}, c) != (by <= 0) {
					t.Fatal("Eps", eps, c, prec)
				}
				if delta.Sign() >= 0 && u.Within(Spend{nat.Nat{}, fraction(t, delta)}, c) != (by <= 0) {
					t.Fatal("Delta", delta, c)
				}
			}
			// Both at once: neither makes up for the other.
			above := new(big.Int).Add(most, big.NewInt(1))
			more := new(big.Rat).Add(value(c.Delta), hair)
			for _, s := range []struct {
				eps   *big.Int
				delta *big.Rat
				want  bool
			}{{most, value(c.Delta), true}, {above, value(c.Delta), false}, {most, more, false}, {above, more, false}} {
				if u.Within(Spend{number(t, s.eps), fraction(t, s.delta)}, c) != s.want {
					t.Fatal(s.eps, s.delta, c, prec)
				}
			}
		}
	}
}

// P23.2: Within, of any spends and any costs, even those that no row has.
func TestWithinAny(t *testing.T) {
	r := rand.New(rand.NewPCG(23, 3))
	greatest := new(big.Int).Sub(two(api.MaxBits), big.NewInt(1))
	spends := []Spend{{}, {number(t, greatest), rat.Rat{}}, {nat.Nat{}, fraction(t, new(big.Rat).SetInt(greatest))}, {nat.Of(1), fraction(t, new(big.Rat).SetFrac(big.NewInt(1), greatest))}, {number(t, greatest), fraction(t, new(big.Rat).SetFrac(new(big.Int).Sub(greatest, big.NewInt(1)), greatest))}}
	for range 300 {
		a, _ := rat.Of(random(r), max(1, random(r)))
		spends = append(spends, Spend{nat.Of(random(r)), a})
	}
	seen := map[bool]int{}
	for _, prec := range []int{8, 16, 33, 64} {
		u := made(t, of(plan.Basic, prec, cost(1, 2, 0, 1)))
		for _, s := range spends {
			for range 20 {
				c := plan.Cost{Eps: some(r), Delta: some(r)}
				want := within(toBig(s.Eps), toRat(s.Delta), prec, c)
				seen[want]++
				if u.Within(s, c) != want {
					t.Fatalf("%v in %v isn't %v by %d", s, c, want, prec)
				}
			}
		}
	}
	if seen[true] < 1000 || seen[false] < 1000 {
		t.Fatal("the test's own: one answer is too rare,", seen)
	}
}

// P23.2: nothing is within a cost that has a Den of 0.
func TestWithinNoCost(t *testing.T) {
	u := made(t, of(plan.Basic, 16, cost(1, 2, 0, 1)))
	for _, r := range []plan.Ratio{{}, ratio(1, 0), ratio(top, 0)} {
		for _, good := range []plan.Ratio{ratio(0, 1), ratio(top, 1), {}} {
			for _, s := range []Spend{{}, {Eps: nat.Of(1)}} {
				if u.Within(s, plan.Cost{Eps: r, Delta: good}) || u.Within(s, plan.Cost{Eps: good, Delta: r}) {
					t.Fatal(s, "is within", r, good)
				}
			}
		}
	}
}

// P23.2: each of the four caps holds by itself; a cost that comes to it is afforded, a hair less isn't.
func TestEachCap(t *testing.T) {
	least := func(r *plan.Ratio) { r.Num-- }
	for what, c := range map[string]struct {
		tighten func(p *plan.Plan)
		// who is still afforded a use: contact 0, which had the uses, and contact 1, which had none
		first, second bool
	}{
		"none":            {func(p *plan.Plan) {}, true, true},
		"Eps of all":      {func(p *plan.Plan) { least(&p.Global.Eps) }, false, false},
		"Delta of all":    {func(p *plan.Plan) { least(&p.Global.Delta) }, false, false},
		"Eps of one's":    {func(p *plan.Plan) { least(&p.Contact.Eps) }, false, true},
		"Delta of one's":  {func(p *plan.Plan) { least(&p.Contact.Delta) }, false, true},
		"Eps, both":       {func(p *plan.Plan) { least(&p.Global.Eps); least(&p.Contact.Eps) }, false, false},
		"Eps and Delta":   {func(p *plan.Plan) { least(&p.Global.Eps); least(&p.Contact.Delta) }, false, false},
		"both of one's":   {func(p *plan.Plan) { least(&p.Contact.Eps); least(&p.Contact.Delta) }, false, true},
		"all loose":       {func(p *plan.Plan) { *p = capped(*p, loose(), loose()) }, true, true},
		"no Eps":          {func(p *plan.Plan) { p.Contact.Eps = ratio(0, 1) }, false, false},
		"no Eps for all":  {func(p *plan.Plan) { p.Global.Eps = ratio(0, 1) }, false, false},
		"no Delta":        {func(p *plan.Plan) { p.Contact.Delta = ratio(0, 1) }, false, false},
		"no Delta of all": {func(p *plan.Plan) { p.Global.Delta = ratio(0, 1) }, false, false},
	} {
		for _, mode := range []plan.Mode{plan.Basic, plan.Strong} {
			// Three uses come just to the caps: Eps is a whole number over 2 to the 8, Delta one over 100.
			p := of(mode, 8, cost(1, 3, 1, 50))
			p.Slack = ratio(1, 100)
			eps, delta := told(t, p, constsOf(t, p), table.Row{3})
			delta.Mul(delta, big.NewRat(100, 1))
			most := cost(uint32(eps.Uint64()), 256, uint32(delta.Num().Uint64()), 100)
			p = capped(p, most, most)
			c.tighten(&p)
			u, x := made(t, p), used(table.Row{2})
			for contact, want := range []bool{c.first, c.second} {
				if u.Affords(x, contact, 0) != want || u.Dry(x, contact) == want {
					t.Fatal(what, mode, contact, want)
				}
			}
			asTold(t, p, x)
		}
	}
}

// P23.2: what is told of a cost is rounded up, so that it may be above a cap that the real number isn't above.
func TestRoundedUp(t *testing.T) {
	third := capped(of(plan.Basic, 8, cost(1, 3, 0, 1)), cost(1, 3, 0, 1), loose())
	yields(t, made(t, third), used(), 0, 0, false)
	third.Global.Eps = ratio(86, 256)
	yields(t, made(t, third), used(), 0, 0, true)
	third.Global.Eps = ratio(1, 1)
	yields(t, made(t, third), used(table.Row{2}), 0, 0, true)
	yields(t, made(t, third), used(table.Row{3}), 0, 0, false)
}

// numbers are contacts, or classes, that no plan of m has.
func numbers(m int) []int {
	return []int{math.MinInt, -1 << 32, -256, -m, -2, -1, m, m + 1, 7, 8, 15, 16, 17, 255, 256, 1 << 32, 1<<32 + 1, math.MaxInt}
}

// P23.2: contacts and classes that the plan hasn't.
func TestNotThePlans(t *testing.T) {
	for _, mode := range []plan.Mode{plan.Basic, plan.Strong} {
		p := of(mode, 16, cost(1, 2, 0, 1), cost(1, 3, 0, 1))
		u := made(t, p)
		for _, x := range []table.Table{used(), used(table.Row{1, 2}, table.Row{3, 4})} {
			for _, n := range numbers(2) {
				for _, other := range append(numbers(2), 0, 1) {
					yields(t, u, x, n, other, false)
					yields(t, u, x, other, n, false)
				}
				if !u.Dry(x, n) {
					t.Fatal("Dry", n)
				}
			}
			for _, n := range []int{0, 1} {
				yields(t, u, x, 0, n, true)
				yields(t, u, x, 1, n, true)
			}
		}
	}
	// A plan of as many as there may be has all of them.
	p := of(plan.Basic, 16, slices.Repeat([]plan.Cost{cost(1, 2, 0, 1)}, 8)...)
	for i := range uint64(14) {
		p.Contacts = append(p.Contacts, 30+i)
	}
	if n := asTold(t, p, used()); n != 8*16 {
		t.Fatal("afforded:", n)
	}
}

// P23.2: where a count is at its end nothing can be added.
func TestNoRoom(t *testing.T) {
	p := of(plan.Basic, 16, cost(1, top, 0, 1), cost(1, top, 0, 1))
	u := made(t, p)
	for _, c := range []struct {
		all, own uint32
		want     bool
	}{{top, 0, false}, {0, top, false}, {top, top, false}, {top - 1, top - 1, true}, {top, top - 1, false}, {top - 1, top, false}} {
		x := used()
		x.Global[0], x.Rows[0][0] = c.all, c.own
		yields(t, u, x, 0, 0, c.want)
		yields(t, u, x, 1, 0, c.all < top)
		yields(t, u, x, 0, 1, true)
		if u.Dry(x, 0) {
			t.Fatal("the other class is afforded")
		}
		x.Global[1] = top
		if u.Dry(x, 0) == c.want || u.Dry(x, 1) == (c.all < top) {
			t.Fatal("Dry", c)
		}
	}
}

// P23.2: just the row of all, and the contact's, are looked at, and just the counts of the plan's classes; and no round.
func TestWhatCounts(t *testing.T) {
	for _, mode := range []plan.Mode{plan.Basic, plan.Strong} {
		p := of(mode, 16, cost(1, 2, 0, 1), cost(1, 4, 0, 1))
		p = capped(p, cost(20, 1, 1, 1), cost(10, 1, 1, 1))
		u := made(t, p)
		x := table.Table{Last: math.MaxUint64}
		for i := range x.Rows {
			if i != 1 {
				x.Rows[i] = full()
			}
		}
		for class := 2; class < 8; class++ {
			x.Global[class], x.Rows[1][class] = top, top
		}
		yields(t, u, x, 1, 0, true)
		yields(t, u, x, 1, 1, true)
		if u.Dry(x, 1) || !u.Dry(x, 0) {
			t.Fatal("Dry")
		}
		spent := x
		spent.Global[0] = 100
		yields(t, u, spent, 1, 0, false)
		yields(t, u, spent, 1, 1, false)
		spent = x
		spent.Rows[1][1] = 100
		yields(t, u, spent, 1, 0, false)
		if !u.Dry(spent, 1) {
			t.Fatal("Dry")
		}
	}
}

// P23.2: a contact isn't dry as long as one class is afforded, whichever that is.
func TestDryOfEach(t *testing.T) {
	for _, mode := range []plan.Mode{plan.Basic, plan.Strong} {
		for cheap := range 8 {
			p := of(mode, 16, slices.Repeat([]plan.Cost{cost(8, 1, 0, 1)}, 8)...)
			p.Classes[cheap] = cost(1, 100, 0, 1)
			p = capped(p, loose(), cost(3, 1, 1, 1))
			u := made(t, p)
			for class := range 8 {
				yields(t, u, used(), 0, class, class == cheap)
			}
			if u.Dry(used(), 0) {
				t.Fatal("dry, though class", cheap, "is afforded")
			}
			// By what a class costs by its Delta alone, likewise.
			for class := range p.Classes {
				p.Classes[class] = cost(1, 100, 1, 2)
			}
			p.Classes[cheap].Delta = ratio(0, 1)
			p.Contact.Delta = ratio(2, 5)
			u = made(t, p)
			for class := range 8 {
				yields(t, u, used(), 0, class, class == cheap)
			}
			if u.Dry(used(), 0) {
				t.Fatal("dry, though class", cheap, "is afforded")
			}
		}
	}
}

// mild is a random plan of few uses: what its classes cost is near to its caps.
func mild(r *rand.Rand) plan.Plan {
	p := of(plan.Mode(r.IntN(2)), 8+r.IntN(57))
	p.Slack = ratio(1, 2+r.Uint32N(1<<r.IntN(20)))
	near := func(most uint32) plan.Ratio {
		d := 1 + r.Uint32N(1<<r.IntN(20))
		return ratio(1+r.Uint32N(most*d), d)
	}
	for range 1 + r.IntN(4) {
		c := plan.Cost{Eps: near(1), Delta: near(1)}
		c.Delta.Num = min(c.Delta.Num, c.Delta.Den-1) / 16
		p.Classes = append(p.Classes, c)
	}
	p.Global, p.Contact = plan.Cost{Eps: near(20), Delta: near(3)}, plan.Cost{Eps: near(12), Delta: near(3)}
	p.Contacts = []uint64{3, 5, 8}
	return p
}

// P23.2: by random plans with tables about their caps, as the chapter tells it.
func TestAsTold(t *testing.T) {
	r := rand.New(rand.NewPCG(23, 4))
	tried, afforded := 0, 0
	for range 300 {
		p := mild(r)
		var x table.Table
		for range 1 + r.IntN(30) {
			x, _ = x.Add(r.IntN(3), r.IntN(len(p.Classes)))
		}
		tried += 3 * len(p.Classes)
		afforded += asTold(t, p, x)
	}
	if afforded < tried/10 || tried-afforded < tried/10 {
		t.Fatal("the test's own: one answer is too rare,", afforded, "of", tried)
	}
	for _, p := range plans() {
		x := table.Table{Global: someRow(r), Last: r.Uint64()}
		for i := range x.Rows {
			x.Rows[i] = someRow(r)
		}
		asTold(t, p, used())
		asTold(t, p, x)
	}
}

// bits are how many the floats have by which the real numbers are reckoned.
const bits = 600

func float(x *big.Rat) *big.Float { return new(big.Float).SetPrec(bits).SetRat(x) }

// power is e to an x that is from 0 to 23.
func power(x *big.Float) *big.Float {
	term, s := float(big.NewRat(1, 1)), float(big.NewRat(1, 1))
	for k := range int64(300) {
		term.Mul(term, x)
		term.Quo(term, float(big.NewRat(k+1, 1)))
		s.Add(s, term)
	}
	return s
}

// atLeast tells whether v isn't below what a row that isn't idle costs over the real numbers.
//
// Where a plan is Strong that is asked without roots and logarithms: with D what v is above T, whether e to the (D squared, over 2 S) isn't below 1 over the Slack.
func atLeast(p plan.Plan, r table.Row, v *big.Rat) bool {
	if p.Mode == plan.Basic {
		return v.Cmp(sum(p, r, epsOf)) >= 0
	}
	d := float(v)
	for i, c := range p.Classes {
		eps := float(value(c.Eps))
		grown := power(eps)
		grown.Sub(grown, float(big.NewRat(1, 1)))
		eps.Mul(eps, grown)
		d.Sub(d, eps.Mul(eps, float(big.NewRat(int64(r[i]), 1))))
	}
	if d.Sign() < 0 {
		return false
	}
	s := sum(p, r, squareOf)
	d.Mul(d, d)
	d.Quo(d, float(s.Add(s, s)))
	// No logarithm of 1 over a Slack is above 23.
	return d.Cmp(float(big.NewRat(23, 1))) > 0 || power(d).Cmp(float(new(big.Rat).Inv(value(p.Slack)))) >= 0
}

// P23.3: what a row costs is at least the real number, and at most 2 over 2 to the Prec above it.
func TestNear(t *testing.T) {
	r := rand.New(rand.NewPCG(23, 5))
	for _, p := range plans() {
		u := made(t, p)
		for _, row := range rows(r) {
			if idle(p, row) {
				continue
			}
			s, e := u.Spend(row)
			eps := toBig(s.Eps)
			told := func(less int64) *big.Rat {
				return new(big.Rat).SetFrac(new(big.Int).Sub(eps, big.NewInt(less)), two(p.Prec))
			}
			// A Basic cost may be just what is told; 2 less is below all.
			if e != api.OK || !atLeast(p, row, told(0)) || atLeast(p, row, told(2)) && told(2).Cmp(sum(p, row, epsOf)) != 0 {
				t.Fatalf("%v of %v isn't near, by %+v", s, row, p)
			}
		}
	}
}

// lesser is a table that x covers.
func lesser(r *rand.Rand, x table.Table) table.Table {
	fewer := func(n *uint32) {
		switch r.IntN(3) {
		case 0:
			*n = 0
		case 1:
			*n = uint32(r.Uint64N(uint64(*n) + 1))
		}
	}
	for i := range x.Global {
		fewer(&x.Global[i])
		for contact := range x.Rows {
			fewer(&x.Rows[contact][i])
		}
	}
	x.Last = r.Uint64()
	return x
}

// P23.3: what a table affords is afforded by each that it covers; what isn't dry stays so.
func TestCovered(t *testing.T) {
	r := rand.New(rand.NewPCG(23, 6))
	tried := 0
	for range 150 {
		p := mild(r)
		u := made(t, p)
		var x table.Table
		for range 30 {
			contact, class := r.IntN(3), r.IntN(len(p.Classes))
			if !u.Affords(x, contact, class) {
				continue
			}
			for range 8 {
				y := lesser(r, x)
				if !x.Covers(y) {
					t.Fatal("the test's own:", x, y)
				}
				tried++
				yields(t, u, y, contact, class, true)
				if u.Dry(y, contact) {
					t.Fatal("dry:", y)
				}
			}
			x, _ = x.Add(contact, class)
		}
	}
	if tried < 5000 {
		t.Fatal("the test's own: too few,", tried)
	}
}

// P23.3, W1: what is used as long as it is afforded stays within the caps over the real numbers, and goes on till all are dry.
func TestStory(t *testing.T) {
	r := rand.New(rand.NewPCG(23, 7))
	kept := func(p plan.Plan, row table.Row, most plan.Cost) bool {
		delta := sum(p, row, deltaOf)
		if p.Mode == plan.Strong {
			delta.Add(delta, value(p.Slack))
		}
		return idle(p, row) || atLeast(p, row, value(most.Eps)) && delta.Cmp(value(most.Delta)) <= 0
	}
	for range 100 {
		p := mild(r)
		u := made(t, p)
		var x table.Table
		for range 200 {
			contact, class := r.IntN(3), r.IntN(len(p.Classes))
			if u.Affords(x, contact, class) {
				x, _ = x.Add(contact, class)
			}
		}
		rows := append([]table.Row{x.Global}, x.Rows[:3]...)
		for i, row := range rows {
			most := p.Contact
			if i == 0 {
				most = p.Global
			}
			s, e := u.Spend(row)
			if e != api.OK || !kept(p, row, most) || !u.Within(s, most) {
				t.Fatalf("%v comes to %v %v, beyond %v, by %+v", row, s, e, most, p)
			}
		}
	}
}

// R3: what is handed in isn't kept or changed; what is handed out is new.
func TestNothingIsShared(t *testing.T) {
	for _, mode := range []plan.Mode{plan.Basic, plan.Strong} {
		fresh := func() plan.Plan {
			return capped(of(mode, 20, cost(1, 2, 1, 9), cost(1, 3, 0, 7)), cost(3, 1, 1, 1), cost(2, 1, 1, 1))
		}
		p := fresh()
		p.Classes, p.Contacts = slices.Grow(p.Classes, 4), slices.Grow(p.Contacts, 4)
		u := made(t, p)
		want, e := u.Spend(table.Row{1, 1})
		if e != api.OK || !reflect.DeepEqual(p, fresh()) {
			t.Fatal(p, e)
		}
		x := used(table.Row{1})
		had := x
		for range 2 {
			q := u.Plan()
			for _, l := range []plan.Plan{p, q} {
				clear(l.Classes[:cap(l.Classes)])
				clear(l.Contacts[:cap(l.Contacts)])
			}
			s, e := u.Spend(table.Row{1, 1})
			if e != api.OK || s.Eps.Cmp(want.Eps) != 0 || s.Delta.Cmp(want.Delta) != 0 || !reflect.DeepEqual(u.Plan(), fresh()) {
				t.Fatal(s, want, e, u.Plan())
			}
			clear(s.Eps.Words())
			yields(t, u, x, 0, 0, true)
			yields(t, u, x, 0, 1, true)
			yields(t, u, x, 1, 0, true)
			if u.Dry(x, 0) || x != had {
				t.Fatal("Dry, or the table:", x)
			}
		}
	}
}

// R3: room behind the end of a plan's lists isn't written into.
func TestRoom(t *testing.T) {
	p := of(plan.Strong, 20, cost(1, 2, 1, 9), cost(1, 3, 0, 7))
	p.Classes, p.Contacts = slices.Grow(p.Classes, 4), slices.Grow(p.Contacts, 4)
	u := made(t, p)
	u.Spend(table.Row{1, 1})
	u.Affords(used(), 0, 0)
	u.Dry(used(), 0)
	for _, c := range p.Classes[:cap(p.Classes)][2:] {
		if c != (plan.Cost{}) {
			t.Fatal("behind the classes:", c)
		}
	}
	for _, c := range p.Contacts[:cap(p.Contacts)][2:] {
		if c != 0 {
			t.Fatal("behind the contacts:", c)
		}
	}
}

// R1, R2: of the zero purse nothing is promised, but that its calls end and don't panic, and that an error has nothing beside it. It affords nothing.
func TestZeroPurse(t *testing.T) {
	var u Purse
	if p := u.Plan(); !reflect.ValueOf(p).IsZero() {
		t.Fatal(p)
	}
	for _, r := range []table.Row{{}, {1}, full()} {
		if s, e := u.Spend(r); e == api.OK || !reflect.ValueOf(s).IsZero() {
			t.Fatal(s, e)
		}
		for _, n := range append(numbers(1), 0) {
			yields(t, u, used(r), n, 0, false)
			yields(t, u, used(r), 0, n, false)
			if !u.Dry(used(r), n) {
				t.Fatal("Dry", n)
			}
		}
	}
	u.Within(Spend{}, plan.Cost{})
	u.Within(Spend{Eps: nat.Of(1)}, loose())
}
