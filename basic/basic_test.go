package basic

import (
	"math"
	"math/big"
	"math/rand/v2"
	"reflect"
	"slices"
	"testing"

	"chaff/api"
	"chaff/noise"
	"chaff/plan"
	"chaff/rat"
	"chaff/table"
)

const top = math.MaxUint32

var one, nought = plan.Ratio{Num: 1, Den: 1}, plan.Ratio{Den: 1}

// of is a plan of these classes, Basic or Strong.
func of(mode plan.Mode, classes ...plan.Cost) plan.Plan {
	return plan.Plan{
		Mode: mode, Prec: 16, Length: 2, Queue: 3, Slack: plan.Ratio{Num: 1, Den: 3},
		Global: plan.Cost{Eps: one, Delta: one}, Contact: plan.Cost{Eps: one, Delta: one}, Tau: one,
		Noise: noise.Law{Num: 1, Den: 2, Mu: 3}, Classes: classes, Contacts: []uint64{10, 20},
	}
}

// cost is a class of Eps a over b and Delta c over d.
func cost(a, b, c, d uint32) plan.Cost {
	return plan.Cost{Eps: plan.Ratio{Num: a, Den: b}, Delta: plan.Ratio{Num: c, Den: d}}
}

// apart are eight numbers of 32 bits, no two of which have a divisor but 1: sums over all of them have the greatest Den that there is.
func apart() []uint32 {
	return []uint32{4294967291, 4294967279, 4294967231, 4294967197, 4294967189, 4294967161, 4294967143, 4294967111}
}

// widest is a plan whose sums have as many bits as they may.
func widest() plan.Plan {
	p := of(plan.Strong)
	for _, d := range apart() {
		p.Classes = append(p.Classes, cost(top, d, d-1, d))
	}
	return p
}

// random is a number, of all sizes.
func random(r *rand.Rand) uint64 { return r.Uint64() >> r.IntN(64) }

// between is one from least to most.
func between(r *rand.Rand, least, most uint64) uint32 {
	return uint32(least + random(r)%(most-least+1))
}

// some is a random plan that may be.
func some(r *rand.Rand) plan.Plan {
	p := of(plan.Mode(r.IntN(2)))
	for range 1 + r.IntN(8) {
		eps, delta := between(r, 1, top), between(r, 1, top)
		p.Classes = append(p.Classes, cost(between(r, 1, min(8*uint64(eps), top)), eps, between(r, 0, uint64(delta)-1), delta))
	}
	return p
}

// plans are such as come to the ends of what is allowed, and random ones.
func plans() []plan.Plan {
	greatest := cost(1<<32-8, 1<<29-1, top-1, top)
	out := []plan.Plan{
		of(plan.Basic, cost(1, 2, 0, 1), cost(1, 3, 1, 100)), of(plan.Strong, cost(1, 2, 0, 1), cost(1, 4, 2, 6)),
		of(plan.Basic, cost(1, top, 0, top)), of(plan.Basic, cost(8, 1, 1, 2)), widest(),
		of(plan.Strong, slices.Repeat([]plan.Cost{greatest}, 8)...), of(plan.Basic, slices.Repeat([]plan.Cost{cost(1, top, 1, top)}, 8)...),
	}
	loose := of(plan.Basic, cost(6, 4, 2, 4))
	loose.Slack = plan.Ratio{}
	out = append(out, loose)
	r := rand.New(rand.NewPCG(21, 1))
	for range 200 {
		out = append(out, some(r))
	}
	return out
}

// someRow is a random row, with counts of classes, too, that a plan may not have.
func someRow(r *rand.Rand) table.Row {
	var out table.Row
	for i := range out {
		if r.IntN(4) > 0 {
			out[i] = uint32(random(r))
		}
	}
	return out
}

// full is a row of the greatest counts.
func full() table.Row { return table.Row{top, top, top, top, top, top, top, top} }

// call is one of the three calls, and what it makes of a class.
type call struct {
	what string
	do   func(p plan.Plan, r table.Row) (rat.Rat, api.Errno)
	of   func(c plan.Cost) *big.Rat
}

func value(r plan.Ratio) *big.Rat { return big.NewRat(int64(r.Num), int64(r.Den)) }

func calls() []call {
	return []call{
		{"Eps", Eps, func(c plan.Cost) *big.Rat { return value(c.Eps) }},
		{"Delta", Delta, func(c plan.Cost) *big.Rat { return value(c.Delta) }},
		{"Squares", Squares, func(c plan.Cost) *big.Rat { return new(big.Rat).Mul(value(c.Eps), value(c.Eps)) }},
	}
}

// told is the sum as the chapter tells it.
func told(p plan.Plan, r table.Row, of func(c plan.Cost) *big.Rat) *big.Rat {
	s := new(big.Rat)
	for i, c := range p.Classes {
		s.Add(s, new(big.Rat).Mul(big.NewRat(int64(r[i]), 1), of(c)))
	}
	return s
}

// holds holds all three calls against what the chapter tells.
func holds(t *testing.T, p plan.Plan, r table.Row) {
	t.Helper()
	for _, c := range calls() {
		a, e := c.do(p, r)
		if want := told(p, r, c.of); e != api.OK || a.String() != want.String() {
			t.Fatalf("%s of %v: %v %v, not %v, by %+v", c.what, r, a, e, want, p)
		}
	}
}

func TestExample(t *testing.T) {
	p := of(plan.Basic, cost(1, 2, 0, 1), cost(1, 3, 1, 10))
	for _, c := range []struct {
		call
		want string
	}{{calls()[0], "7/6"}, {calls()[1], "1/5"}, {calls()[2], "17/36"}} {
		if a, e := c.do(p, table.Row{1, 2}); e != api.OK || a.String() != c.want {
			t.Fatal(c.what, a, e)
		}
	}
}

// P21.1: the sums, of plans and rows of all kinds, Basic and Strong alike.
func TestAsTold(t *testing.T) {
	r := rand.New(rand.NewPCG(21, 2))
	for _, p := range plans() {
		holds(t, p, table.Row{})
		holds(t, p, full())
		for range 20 {
			holds(t, p, someRow(r))
		}
	}
}

// P21.1: each class has its own count, and its own cost.
func TestEachClass(t *testing.T) {
	for _, p := range plans() {
		for i, class := range p.Classes {
			for _, n := range []uint32{1, 2, 1 << 31, top - 1, top} {
				var r table.Row
				r[i] = n
				holds(t, p, r)
			}
			for _, c := range calls() {
				var r table.Row
				r[i] = 1
				if a, e := c.do(p, r); e != api.OK || a.String() != c.of(class).String() {
					t.Fatal(c.what, "of one use of class", i, a, e)
				}
			}
		}
	}
}

// P21.1: counts of classes that the plan hasn't play no part.
func TestOtherClasses(t *testing.T) {
	for _, p := range plans() {
		for _, within := range []table.Row{{}, {3, 1, 4, 1, 5, 9, 2, 6}, full()} {
			var only table.Row
			copy(only[:len(p.Classes)], within[:])
			with := only
			for i := len(p.Classes); i < len(with); i++ {
				with[i] = top - uint32(i)
			}
			for _, c := range calls() {
				a, e := c.do(p, only)
				b, f := c.do(p, with)
				if e != api.OK || f != api.OK || a.Cmp(b) != 0 {
					t.Fatal(c.what, only, with, a, b, e, f)
				}
			}
		}
	}
}

// P21.1: of a plan that may not be, the Check's error, with its order, and nothing beside it.
func TestWrong(t *testing.T) {
	spoilt := func(do func(p *plan.Plan)) plan.Plan {
		p := of(plan.Strong, cost(1, 2, 0, 1), cost(1, 3, 1, 10))
		do(&p)
		return p
	}
	for what, c := range map[string]struct {
		p    plan.Plan
		want api.Errno
	}{
		"none":            {plan.Plan{}, api.ErrRange},
		"Mode":            {spoilt(func(p *plan.Plan) { p.Mode = 2 }), api.ErrRange},
		"Prec":            {spoilt(func(p *plan.Plan) { p.Prec = 7 }), api.ErrRange},
		"Length":          {spoilt(func(p *plan.Plan) { p.Length = 257 }), api.ErrRange},
		"Queue":           {spoilt(func(p *plan.Plan) { p.Queue = 0 }), api.ErrRange},
		"Slack":           {spoilt(func(p *plan.Plan) { p.Slack.Num = 2 }), api.ErrRange},
		"Global":          {spoilt(func(p *plan.Plan) { p.Global.Eps.Den = 0 }), api.ErrRange},
		"Contact":         {spoilt(func(p *plan.Plan) { p.Contact.Delta.Den = 0 }), api.ErrRange},
		"Tau":             {spoilt(func(p *plan.Plan) { p.Tau.Den, p.Classes = 0, nil }), api.ErrRange},
		"Noise":           {spoilt(func(p *plan.Plan) { p.Noise.Mu, p.Contacts = -1, nil }), api.ErrRange},
		"no classes":      {spoilt(func(p *plan.Plan) { p.Classes = nil }), api.ErrClass},
		"nine classes":    {spoilt(func(p *plan.Plan) { p.Classes = slices.Repeat([]plan.Cost{cost(1, 2, 0, 1)}, 9) }), api.ErrClass},
		"many classes":    {spoilt(func(p *plan.Plan) { p.Classes = slices.Repeat([]plan.Cost{cost(1, 2, 0, 1)}, 1<<16) }), api.ErrClass},
		"Eps of Den 0":    {spoilt(func(p *plan.Plan) { p.Classes[1].Eps.Den = 0 }), api.ErrClass},
		"Eps 0":           {spoilt(func(p *plan.Plan) { p.Classes[0].Eps.Num, p.Contacts = 0, nil }), api.ErrClass},
		"Eps above 8":     {spoilt(func(p *plan.Plan) { p.Classes[0].Eps = plan.Ratio{Num: 17, Den: 2} }), api.ErrClass},
		"Delta of Den 0":  {spoilt(func(p *plan.Plan) { p.Classes[0].Delta.Den = 0 }), api.ErrClass},
		"Delta 1":         {spoilt(func(p *plan.Plan) { p.Classes[1].Delta = one }), api.ErrClass},
		"no contacts":     {spoilt(func(p *plan.Plan) { p.Contacts = nil }), api.ErrName},
		"contacts alike":  {spoilt(func(p *plan.Plan) { p.Contacts = []uint64{7, 7} }), api.ErrName},
		"contacts behind": {spoilt(func(p *plan.Plan) { p.Contacts[1] = 9 }), api.ErrName},
	} {
		for _, r := range []table.Row{{}, {1, 2}, full()} {
			for _, do := range calls() {
				if a, e := do.do(c.p, r); e != c.want || !reflect.ValueOf(a).IsZero() {
					t.Fatalf("%s: %s of %v: %v %v, not zero %v", what, do.what, r, a, e, c.want)
				}
			}
		}
	}
}

// together is a row of the counts of both, of which none comes beyond 32 bits.
func together(a, b table.Row) (table.Row, bool) {
	for i, n := range b {
		if n > top-a[i] {
			return a, false
		}
		a[i] += n
	}
	return a, true
}

// P21.2: costs of two rows together are both costs' sums, and no less than either.
func TestSums(t *testing.T) {
	r := rand.New(rand.NewPCG(21, 3))
	tried := 0
	for _, p := range plans() {
		for range 20 {
			x, y := someRow(r), someRow(r)
			both, fits := together(x, y)
			if !fits {
				continue
			}
			tried++
			for _, c := range calls() {
				a, _ := c.do(p, x)
				b, _ := c.do(p, y)
				whole, e := c.do(p, both)
				sum, f := a.Add(b)
				if e != api.OK || f != api.OK || whole.Cmp(sum) != 0 || whole.Cmp(a) < 0 || whole.Cmp(b) < 0 {
					t.Fatal(c.what, x, y, whole, sum, e, f)
				}
			}
		}
	}
	if tried < 1000 {
		t.Fatal("the test's own: too few fit,", tried)
	}
}

// P21.2: one use more costs as much more as that use costs by itself.
func TestOneMore(t *testing.T) {
	r := rand.New(rand.NewPCG(21, 4))
	for _, p := range plans() {
		for i, class := range p.Classes {
			was := someRow(r)
			was[i] = min(was[i], top-1)
			now := was
			now[i]++
			for _, c := range calls() {
				a, _ := c.do(p, was)
				b, _ := c.do(p, now)
				d, e := b.Sub(a)
				if e != api.OK || d.String() != c.of(class).String() {
					t.Fatal(c.what, was, now, a, b, e)
				}
			}
		}
	}
}

// What is handed in is not changed, what is handed out is new, and the same call answers the same.
func TestNothingIsShared(t *testing.T) {
	p, r := of(plan.Basic, cost(6, 4, 2, 4), cost(1, 3, 0, 7)), table.Row{1, 2, 3}
	same, row := of(plan.Basic, cost(6, 4, 2, 4), cost(1, 3, 0, 7)), r
	// Room behind the end of a list isn't written into, nor read.
	room := slices.Grow(p.Classes, 4)
	p.Classes = room
	for range 2 {
		for _, c := range calls() {
			a, _ := c.do(p, r)
			for _, w := range [][]uint64{a.Num().Words(), a.Den().Words()} {
				clear(w)
			}
		}
		holds(t, p, r)
	}
	if !reflect.DeepEqual(p, same) || r != row {
		t.Fatal(p, r)
	}
	for _, c := range room[:cap(room)][len(p.Classes):] {
		if c != (plan.Cost{}) {
			t.Fatal("behind the end:", c)
		}
	}
}
