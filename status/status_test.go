package status

import (
	"errors"
	"fmt"
	"math"
	"math/big"
	"math/rand/v2"
	"reflect"
	"slices"
	"strings"
	"testing"

	"chaff/api"
	"chaff/audit"
	"chaff/disk"
	"chaff/govern"
	"chaff/ledger"
	"chaff/nat"
	"chaff/news"
	"chaff/noise"
	"chaff/plan"
	"chaff/purse"
	"chaff/table"
	"chaff/tape"
)

// The tests reckon costs anew by math/big, which the program itself may not call.

const top = math.MaxUint32

func ratio(n, d uint32) plan.Ratio { return plan.Ratio{Num: n, Den: d} }

func price(a, b, c, d uint32) plan.Cost { return plan.Cost{Eps: ratio(a, b), Delta: ratio(c, d)} }

// small is a Basic plan of two contacts and two classes, of Eps 1/4 and 2/4, of which a contact may use five quarters, and all two. A report of a count of 3 is accepted by it.
func small() plan.Plan {
	return plan.Plan{
		Prec: 8, Length: 2, Queue: 3, Global: price(2, 1, 1, 1), Contact: price(5, 4, 1, 1), Slack: ratio(1, 9), Tau: ratio(1, 1),
		Noise: noise.Law{Num: 1, Den: 2, Mu: 3}, Classes: []plan.Cost{price(1, 4, 0, 1), price(2, 4, 1, 100)}, Contacts: []uint64{10, 20},
	}
}

func fresh(t testing.TB, size int) *disk.Disk {
	t.Helper()
	d, e := disk.New(size)
	if e != api.OK {
		t.Fatal(e)
	}
	return d
}

// sectors is how many sectors the tests' slots have: any plan's texts have room in them.
const sectors = 16

// begins is a governor of a disk.
func begins(t testing.TB, d *disk.Disk, p plan.Plan) *govern.Governor {
	t.Helper()
	g, e := govern.Begin(d, sectors, p)
	if e != api.OK {
		t.Fatal(e)
	}
	return g
}

// begun is a new governor with a ledger, and its disk.
func begun(t testing.TB, p plan.Plan) (*govern.Governor, *disk.Disk) {
	t.Helper()
	d := fresh(t, 2*sectors+9)
	if e := govern.Create(d, sectors, p); e != api.OK {
		t.Fatal(e)
	}
	g := begins(t, d, p)
	if !g.Open() {
		t.Fatal(g.Why())
	}
	accept(t, g)
	return g, d
}

// accept has Accept posted on the epoch 1.
func accept(t testing.TB, g *govern.Governor) {
	t.Helper()
	s, _ := news.CloseReport(news.Report{Epoch: 1, Rows: []news.Row{{Value: 3, Times: 1}}})
	if v, e := g.Report(s); v != audit.Accept || e != api.OK {
		t.Fatal(v, e)
	}
}

// tell is a round of the epoch 1.
func tell(g *govern.Governor, number uint64, class int) govern.Result {
	return g.Round(news.CloseRound(news.Round{Number: number, Epoch: 1, Class: uint8(class)}), tape.New(strings.Repeat("z", 256)))
}

// uses has a real envelope sent.
func uses(t testing.TB, g *govern.Governor, p plan.Plan, number uint64, class int) {
	t.Helper()
	contact := p.Contacts[number%uint64(len(p.Contacts))]
	if e := g.Push(contact, strings.Repeat("a", p.Length)); e != api.OK {
		t.Fatal(e)
	}
	if r := tell(g, number, class); !r.Real {
		t.Fatalf("%+v", r)
	}
}

// looks holds a governor's lines against these.
func looks(t testing.TB, g *govern.Governor, p plan.Plan, want ...string) {
	t.Helper()
	if got := Lines(g, p); !slices.Equal(got, want) {
		t.Fatalf("%q, not %q", got, want)
	}
}

// The chapter's example.
func TestExample(t *testing.T) {
	g, _ := begun(t, small())
	looks(t, g, small(), "round 0", "ledger open", "why none", "waiting 0", "all 0/1 0/1", "contact 0 0/1 0/1", "contact 1 0/1 0/1")
}

// P29.1: each of the lines, as a governor goes on.
func TestLines(t *testing.T) {
	p := small()
	g, d := begun(t, p)
	uses(t, g, p, 2, 0)
	looks(t, g, p, "round 2", "ledger open", "why none", "waiting 0", "all 1/4 0/1", "contact 0 1/4 0/1", "contact 1 0/1 0/1")
	uses(t, g, p, 3, 1)
	looks(t, g, p, "round 3", "ledger open", "why none", "waiting 0", "all 3/4 1/100", "contact 0 1/4 0/1", "contact 1 1/2 1/100")
	for _, contact := range []uint64{20, 10, 20} {
		if e := g.Push(contact, "bb"); e != api.OK {
			t.Fatal(e)
		}
	}
	looks(t, g, p, "round 3", "ledger open", "why none", "waiting 3", "all 3/4 1/100", "contact 0 1/4 0/1", "contact 1 1/2 1/100")
	// A write fails: the round is taken, and nothing else.
	d.Arm(1)
	if r := tell(g, 1<<40, 0); !r.Taken || r.Real {
		t.Fatal(r)
	}
	looks(t, g, p, "round 1099511627776", "ledger open", "why round disk", "waiting 3", "all 3/4 1/100", "contact 0 1/4 0/1", "contact 1 1/2 1/100")
	// A sync fails: the use is counted.
	d.Arm(2)
	if r := tell(g, 1<<41+1, 1); !r.Taken || r.Real {
		t.Fatal(r)
	}
	looks(t, g, p, "round 2199023255553", "ledger open", "why round disk", "waiting 3", "all 5/4 1/50", "contact 0 1/4 0/1", "contact 1 1/1 1/50")
	// Behind a crash that keeps nothing it isn't, and nothing waits.
	g.Crash(nil)
	looks(t, g, p, "round 3", "ledger open", "why none", "waiting 0", "all 3/4 1/100", "contact 0 1/4 0/1", "contact 1 1/2 1/100")
	// The greatest number of a round.
	if r := tell(g, math.MaxUint64, 0); !r.Taken {
		t.Fatal(r)
	}
	looks(t, g, p, "round 18446744073709551615", "ledger open", "why none", "waiting 0", "all 3/4 1/100", "contact 0 1/4 0/1", "contact 1 1/2 1/100")
}

// P29.1: a contact is dry, if no class is afforded to it any more, by its own cap or by that of all; the line of all never says so.
func TestDry(t *testing.T) {
	p := small()
	g, _ := begun(t, p)
	for _, number := range []uint64{2, 4} {
		uses(t, g, p, number, 1)
	}
	looks(t, g, p, "round 4", "ledger open", "why none", "waiting 0", "all 1/1 1/50", "contact 0 1/1 1/50", "contact 1 0/1 0/1")
	uses(t, g, p, 6, 0)
	looks(t, g, p, "round 6", "ledger open", "why none", "waiting 0", "all 5/4 1/50", "contact 0 5/4 1/50 dry", "contact 1 0/1 0/1")
	uses(t, g, p, 7, 1)
	looks(t, g, p, "round 7", "ledger open", "why none", "waiting 0", "all 7/4 3/100", "contact 0 5/4 1/50 dry", "contact 1 1/2 1/100")
	uses(t, g, p, 9, 0)
	looks(t, g, p, "round 9", "ledger open", "why none", "waiting 0", "all 2/1 3/100", "contact 0 5/4 1/50 dry", "contact 1 3/4 1/100 dry")

	// By caps that nothing is within, all are dry from the beginning.
	for _, change := range []func(p *plan.Plan){
		func(p *plan.Plan) { p.Global.Eps = ratio(0, 1) },
		func(p *plan.Plan) { p.Contact.Eps = ratio(1, 5) },
		func(p *plan.Plan) { p.Contact.Delta, p.Classes[0].Delta = ratio(0, 1), ratio(1, top) },
	} {
		p := small()
		change(&p)
		g, _ := begun(t, p)
		looks(t, g, p, "round 0", "ledger open", "why none", "waiting 0", "all 0/1 0/1", "contact 0 0/1 0/1 dry", "contact 1 0/1 0/1 dry")
	}
}

// P29.1: where there is no ledger there are no costs, and why there is none is told.
func TestClosed(t *testing.T) {
	p := small()
	rotten := func() *disk.Disk {
		_, d := begun(t, p)
		for i := range d.Size() {
			d.Rot(i, 20, 1)
		}
		return d
	}
	other := func() *disk.Disk {
		q := small()
		q.Queue++
		_, d := begun(t, q)
		return d
	}
	armed := func() *disk.Disk {
		_, d := begun(t, p)
		d.Arm(1)
		return d
	}
	for word, d := range map[string]*disk.Disk{"none": fresh(t, 40), "range": fresh(t, 5), "rot": rotten(), "state": other(), "disk": armed()} {
		g := begins(t, d, p)
		looks(t, g, p, "round 0", "ledger closed", "why open "+word, "waiting 0")
		if e := g.Push(20, "aa"); e != api.OK {
			t.Fatal(e)
		}
		if r := tell(g, 5, 0); !r.Taken || r.Real {
			t.Fatal(r)
		}
		looks(t, g, p, "round 5", "ledger closed", "why open "+word, "waiting 1")
	}
}

// P29.1: of a plan that may not be there are no lines, whatever the governor.
func TestNoPlan(t *testing.T) {
	open, _ := begun(t, small())
	closed := begins(t, fresh(t, 40), small())
	for i, change := range []func(p *plan.Plan){
		func(p *plan.Plan) { *p = plan.Plan{} },
		func(p *plan.Plan) { p.Mode = 2 },
		func(p *plan.Plan) { p.Mode = -1 },
		func(p *plan.Plan) { p.Mode, p.Slack = plan.Strong, ratio(0, 1) },
		func(p *plan.Plan) { p.Prec = 7 },
		func(p *plan.Plan) { p.Prec = 65 },
		func(p *plan.Plan) { p.Prec = math.MinInt },
		func(p *plan.Plan) { p.Length = 0 },
		func(p *plan.Plan) { p.Queue = 65 },
		func(p *plan.Plan) { p.Global.Eps.Den = 0 },
		func(p *plan.Plan) { p.Contact.Delta.Den = 0 },
		func(p *plan.Plan) { p.Tau.Den = 0 },
		func(p *plan.Plan) { p.Noise.Den = 0 },
		func(p *plan.Plan) { p.Classes = nil },
		func(p *plan.Plan) { p.Classes[1].Eps.Num = 0 },
		func(p *plan.Plan) { p.Classes = make([]plan.Cost, 9) },
		func(p *plan.Plan) { p.Contacts = nil },
		func(p *plan.Plan) { p.Contacts[0] = 20 },
		func(p *plan.Plan) { p.Contacts = make([]uint64, 17) },
	} {
		p := small()
		change(&p)
		if p.Check() == api.OK {
			t.Fatal("the test's own:", i)
		}
		looks(t, open, p)
		looks(t, closed, p)
		looks(t, new(govern.Governor), p)
	}
}

// value is a ratio as a fraction.
func value(r plan.Ratio) *big.Rat { return big.NewRat(int64(r.Num), int64(r.Den)) }

// sum is what a row's counts come to, by what is told of each class.
func sum(p plan.Plan, r table.Row, of func(c plan.Cost) plan.Ratio) *big.Rat {
	s := new(big.Rat)
	for i, c := range p.Classes {
		s.Add(s, new(big.Rat).Mul(big.NewRat(int64(r[i]), 1), value(of(c))))
	}
	return s
}

func toBig(a nat.Nat) *big.Int {
	v, ok := new(big.Int).SetString(a.String(), 10)
	if !ok {
		panic("the test's own")
	}
	return v
}

// reckoner is a plan, and a purse of it.
type reckoner struct {
	plan.Plan
	purse purse.Purse
}

func reckons(t testing.TB, p plan.Plan) reckoner {
	t.Helper()
	u, e := purse.New(p)
	if e != api.OK {
		t.Fatal(e)
	}
	return reckoner{p, u}
}

// costs is what a row costs: of a plan that is Strong its Eps as layer 23 answers it.
func (p reckoner) costs(r table.Row) (eps, delta *big.Rat) {
	unit := new(big.Int).Lsh(big.NewInt(1), uint(p.Prec))
	delta = sum(p.Plan, r, func(c plan.Cost) plan.Ratio { return c.Delta })
	if p.Mode == plan.Strong {
		if r != (table.Row{}) {
			delta.Add(delta, value(p.Slack))
		}
		s, _ := p.purse.Spend(r)
		return new(big.Rat).SetFrac(toBig(s.Eps), unit), delta
	}
	x := sum(p.Plan, r, func(c plan.Cost) plan.Ratio { return c.Eps })
	n := new(big.Int).Mul(x.Num(), unit)
	n.Add(n, x.Denom()).Sub(n, big.NewInt(1)).Div(n, x.Denom())
	return new(big.Rat).SetFrac(n, unit), delta
}

// within is whether what a row costs is within a cost.
func (p reckoner) within(r table.Row, c plan.Cost) bool {
	eps, delta := p.costs(r)
	return eps.Cmp(value(c.Eps)) <= 0 && delta.Cmp(value(c.Delta)) <= 0
}

// dry is whether no class is afforded to a contact.
func (p reckoner) dry(x table.Table, contact int) bool {
	for class := range p.Classes {
		all, own := x.Global, x.Rows[contact]
		all[class]++
		own[class]++
		if p.within(all, p.Global) && p.within(own, p.Contact) {
			return false
		}
	}
	return true
}

// tells is what the lines of a governor with a ledger should be, by what it answers of itself.
func (p reckoner) tells(g *govern.Governor) []string {
	written := func(r table.Row) string {
		eps, delta := p.costs(r)
		return eps.String() + " " + delta.String()
	}
	why := "none"
	if g.Why() != nil {
		why = strings.ReplaceAll(g.Why().Error(), ":", "")
	}
	x := g.Table()
	out := []string{fmt.Sprint("round ", g.Last()), "ledger open", "why " + why, fmt.Sprint("waiting ", g.Waiting()), "all " + written(x.Global)}
	for i := range p.Contacts {
		s := fmt.Sprintf("contact %d %s", i, written(x.Rows[i]))
		if p.dry(x, i) {
			s += " dry"
		}
		out = append(out, s)
	}
	return out
}

// some is a random plan whose caps are some uses away.
func some(r *rand.Rand) plan.Plan {
	p := small()
	p.Mode, p.Prec, p.Queue = plan.Mode(r.IntN(2)), 8+r.IntN(57), 1+r.IntN(64)
	p.Slack = ratio(1+r.Uint32N(5), 10+r.Uint32N(1000))
	p.Classes, p.Contacts = nil, nil
	for range 1 + r.IntN(8) {
		p.Classes = append(p.Classes, price(1+r.Uint32N(1<<r.IntN(20)), 1<<17+r.Uint32N(1<<r.IntN(32)), r.Uint32N(1<<r.IntN(16)), 1<<20+r.Uint32N(1<<r.IntN(32))))
	}
	for i := range 1 + r.IntN(16) {
		p.Contacts = append(p.Contacts, uint64(i)*uint64(1+r.IntN(3))<<4+uint64(i))
	}
	p.Global, p.Contact = price(1+r.Uint32N(1<<20), 1<<16, 1, 1+r.Uint32N(2)), price(1+r.Uint32N(1<<18), 1<<16, 1, 1+r.Uint32N(3))
	slices.Sort(p.Contacts)
	return p
}

// P29.1: the lines of governors of many plans, Basic and Strong, at all times.
func TestManyPlans(t *testing.T) {
	r := rand.New(rand.NewPCG(29, 1))
	many := map[string]int{}
	for range 120 {
		p := some(r)
		if p.Check() != api.OK {
			continue
		}
		u := reckons(t, p)
		g, d := begun(t, p)
		last := uint64(0)
		for range 25 {
			for range r.IntN(3) {
				g.Push(p.Contacts[r.IntN(len(p.Contacts))], "aa")
			}
			last += 1 + r.Uint64N(1<<r.IntN(20))
			d.Arm(r.IntN(40))
			x := tell(g, last, r.IntN(len(p.Classes)))
			d.Arm(0)
			if !x.Taken {
				t.Fatal(x)
			}
			if x.Real {
				many["real"]++
			}
			want := u.tells(g)
			many[want[2]]++
			looks(t, g, p, want...)
			for _, s := range want {
				if strings.HasSuffix(s, " dry") {
					many["dry"]++
				} else if strings.HasPrefix(s, "contact") {
					many["moist"]++
				}
			}
		}
		many[fmt.Sprint("mode ", p.Mode)]++
	}
	for _, kind := range []string{"real", "why none", "why round disk", "dry", "moist", "mode 0", "mode 1"} {
		if many[kind] < 20 {
			t.Fatal("the test's own: too few,", kind, many)
		}
	}
}

// P29.1: of the greatest costs, too, all are written as they are.
func TestGreat(t *testing.T) {
	for _, mode := range []plan.Mode{plan.Basic, plan.Strong} {
		for _, prec := range []int{8, 64} {
			p := small()
			p.Mode, p.Prec, p.Slack = mode, prec, ratio(1, top)
			p.Global, p.Contact = price(top, 1, top, 1), price(top, 1, top, 1)
			p.Classes, p.Contacts = nil, nil
			// No two of these Dens have a divisor but 1.
			for _, d := range []uint32{4294967291, 4294967279, 4294967231, 4294967197, 4294967189, 4294967161, 4294967143, 4294967111} {
				p.Classes = append(p.Classes, price(top, d, d-1, d))
			}
			for i := range uint64(16) {
				p.Contacts = append(p.Contacts, math.MaxUint64-15+i)
			}
			g, _ := begun(t, p)
			for i := range uint64(64) {
				uses(t, g, p, 1+i, int(i)%8)
			}
			looks(t, g, p, reckons(t, p).tells(g)...)
			if l := Lines(g, p); len(l) != 21 || !strings.HasPrefix(l[20], "contact 15 ") {
				t.Fatal(l)
			}
		}
	}
}

// foreign is an error of somebody else, around another one.
type foreign struct{ within error }

func (f foreign) Error() string { return "foreign" }
func (f foreign) Unwrap() error { return f.within }

// P29.2: the number that an error has within, and the word of a trouble.
func TestErrors(t *testing.T) {
	under := func(where string, err error) error { return govern.Trouble{Where: where, Err: err} }
	for i, c := range []struct {
		err   error
		code  api.Errno
		where string
	}{
		{nil, api.OK, ""},
		{api.OK, api.OK, ""},
		{api.ErrOther, api.ErrOther, ""},
		{api.Errno(18), 18, ""},
		{api.Errno(-1), -1, ""},
		{errors.New("disk"), api.ErrOther, ""},
		{foreign{}, api.ErrOther, ""},
		{foreign{api.ErrFull}, api.ErrFull, ""},
		{foreign{foreign{api.ErrRot}}, api.ErrRot, ""},
		{under("round", api.ErrDisk), api.ErrDisk, "round"},
		{under("open", api.OK), api.OK, "open"},
		{under("", api.ErrDisk), api.ErrDisk, ""},
		{under("", under("inner", api.ErrDisk)), api.ErrDisk, ""},
		{under("x", under("y", api.ErrFull)), api.ErrFull, "x"},
		{under("x", nil), api.ErrOther, "x"},
		{govern.Trouble{}, api.ErrOther, ""},
		{under("x", errors.New("y")), api.ErrOther, "x"},
		{foreign{under("x", foreign{api.ErrNone})}, api.ErrNone, "x"},
		{fmt.Errorf("%w", under("x", api.ErrBits)), api.ErrBits, "x"},
		{errors.Join(errors.New("a"), under("x", api.ErrSign), api.ErrFull), api.ErrSign, "x"},
		{errors.Join(api.ErrFull, under("x", api.ErrSign)), api.ErrFull, "x"},
		{errors.Join(under("x", nil), under("y", api.ErrSign)), api.ErrSign, "x"},
	} {
		if got := Code(c.err); got != c.code {
			t.Errorf("%d: Code(%v) is %v, not %v", i, c.err, got, c.code)
		}
		if got := Where(c.err); got != c.where {
			t.Errorf("%d: Where(%v) is %q, not %q", i, c.err, got, c.where)
		}
	}
	for n := api.OK; n <= api.ErrOther; n++ {
		for _, err := range []error{n, under("x", n), foreign{n}, foreign{under("x", under("y", n))}} {
			if Code(err) != n {
				t.Errorf("Code(%v) is %v, not %v", err, Code(err), n)
			}
		}
	}
}

// P29.2: what a governor tells is found likewise.
func TestWhy(t *testing.T) {
	p := small()
	g := begins(t, fresh(t, 40), p)
	if Code(g.Why()) != api.ErrNone || Where(g.Why()) != "open" {
		t.Fatal(g.Why())
	}
	g, d := begun(t, p)
	if Code(g.Why()) != api.OK || Where(g.Why()) != "" {
		t.Fatal(g.Why())
	}
	d.Arm(1)
	tell(g, 1, 0)
	if Code(g.Why()) != api.ErrDisk || Where(g.Why()) != "round" {
		t.Fatal(g.Why())
	}
}

// R3, R5: lines change nothing, of the governor, its disk and the plan, share nothing, and are the same each time.
func TestNothingIsShared(t *testing.T) {
	p := small()
	p.Classes, p.Contacts = slices.Grow(p.Classes, 4), slices.Grow(p.Contacts, 4)
	g, d := begun(t, p)
	uses(t, g, p, 3, 1)
	g.Push(10, "aa")
	x, ops := g.Table(), d.Ops()
	first := Lines(g, p)
	want := slices.Clone(first)
	clear(first)
	d.Arm(1)
	if !slices.Equal(Lines(g, p), want) || !reflect.DeepEqual(p, small()) || g.Table() != x || d.Ops() != ops || g.Waiting() != 1 {
		t.Fatal("something was changed")
	}
	for i := range 2 {
		if p.Classes[:4][2+i] != (plan.Cost{}) || p.Contacts[:4][2+i] != 0 {
			t.Fatal("behind the plan's lists")
		}
	}
	// The governor keeps nothing of the plan that the lines were asked by.
	clear(p.Classes)
	clear(p.Contacts)
	d.Arm(0)
	looks(t, g, small(), want...)
	l, e := ledger.Open(d, sectors)
	if e != api.OK || l.Table() != x {
		t.Fatal(e)
	}
}

// R1: of the zero governor nothing is promised, but that the call ends and doesn't panic. It has no ledger.
func TestZeroGovernor(t *testing.T) {
	looks(t, new(govern.Governor), small(), "round 0", "ledger closed", "why none", "waiting 0")
}
