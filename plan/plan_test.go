package plan

import (
	"math"
	"math/big"
	"math/rand/v2"
	"reflect"
	"strings"
	"testing"

	"chaff/api"
	"chaff/noise"
)

const top = math.MaxUint32

var one, nought = Ratio{1, 1}, Ratio{0, 1}

// small is a plan of two classes and two contacts.
func small() Plan {
	return Plan{
		Prec: 16, Length: 2, Queue: 3,
		Global: Cost{Ratio{3, 2}, one}, Contact: Cost{one, Ratio{1, 9}}, Tau: Ratio{1, 5},
		Noise:    noise.Law{Num: 1, Den: 2, Mu: 3},
		Classes:  []Cost{{Ratio{1, 2}, nought}, {Ratio{1, 4}, Ratio{1, 100}}},
		Contacts: []uint64{10, 20},
	}
}

// least is a plan that comes to the lower ends of what is allowed.
func least() Plan {
	none := Cost{nought, nought}
	return Plan{
		Mode: Strong, Prec: 8, Length: 1, Queue: 1, Slack: Ratio{1, top}, Global: none, Contact: none, Tau: nought,
		Noise: noise.Law{Num: 1, Den: 1}, Classes: []Cost{{Ratio{1, top}, nought}}, Contacts: []uint64{0},
	}
}

// greatest is a plan that comes to the upper ends.
func greatest() Plan {
	most := Cost{Ratio{top, 1}, Ratio{top, top}}
	p := Plan{
		Mode: Strong, Prec: 64, Length: 256, Queue: 64, Slack: Ratio{math.MaxInt32, top - 1}, Global: most, Contact: most, Tau: Ratio{top, 1},
		Noise: noise.Law{Num: top, Den: top, Mu: 1 << 20},
	}
	for range 8 {
		p.Classes = append(p.Classes, Cost{Ratio{1<<32 - 8, 1<<29 - 1}, Ratio{top - 1, top}})
	}
	for i := range uint64(16) {
		p.Contacts = append(p.Contacts, math.MaxUint64-15+i)
	}
	return p
}

// loose is a plan whose Slack plays no part, and is none.
func loose() Plan {
	p := small()
	p.Slack = Ratio{7, 0}
	return p
}

// plans are those above, and some out of random numbers, that may be.
func plans() []Plan {
	out := []Plan{small(), least(), greatest(), loose()}
	r := rand.New(rand.NewPCG(18, 1))
	for range 300 {
		out = append(out, some(r))
	}
	return out
}

// random is a number, of all sizes.
func random(r *rand.Rand) uint64 { return r.Uint64() >> r.IntN(64) }

// number is one from least to most.
func number(r *rand.Rand, least, most uint64) uint64 { return least + random(r)%(most-least+1) }

// some is a random plan that may be.
func some(r *rand.Rand) Plan {
	ratio := func() Ratio { return Ratio{uint32(number(r, 0, top)), uint32(number(r, 1, top))} }
	cost := func() Cost { return Cost{ratio(), ratio()} }
	p := Plan{
		Mode: Mode(r.IntN(2)), Prec: 8 + r.IntN(57), Length: 1 + r.IntN(256), Queue: 1 + r.IntN(64), Slack: ratio(), Global: cost(), Contact: cost(), Tau: ratio(),
		Noise: noise.Law{Num: number(r, 1, top), Den: number(r, 1, top), Mu: r.IntN(1<<20 + 1)},
	}
	if p.Mode == Strong {
		p.Slack = Ratio{1, uint32(number(r, 2, top))}
	}
	for range 1 + r.IntN(8) {
		den := number(r, 1, top)
		delta := number(r, 1, top)
		p.Classes = append(p.Classes, Cost{Ratio{uint32(number(r, 1, min(8*den, top))), uint32(den)}, Ratio{uint32(number(r, 0, delta-1)), uint32(delta)}})
	}
	at := uint64(0)
	for range 1 + r.IntN(16) {
		at += number(r, 1, 1<<59)
		p.Contacts = append(p.Contacts, at)
	}
	return p
}

// value is a ratio's number, if it is one.
func value(r Ratio) (*big.Rat, bool) {
	if r.Den == 0 {
		return nil, false
	}
	return big.NewRat(int64(r.Num), int64(r.Den)), true
}

// told is what the chapter says of a plan, word by word.
func told(p Plan) api.Errno {
	if p.Mode != 0 && p.Mode != 1 || p.Prec < 8 || p.Prec > 64 || p.Length < 1 || p.Length > 256 || p.Queue < 1 || p.Queue > 64 {
		return api.ErrRange
	}
	if s, ok := value(p.Slack); p.Mode == 1 && (!ok || s.Sign() <= 0 || s.Cmp(big.NewRat(1, 2)) > 0) {
		return api.ErrRange
	}
	for _, r := range []Ratio{p.Global.Eps, p.Global.Delta, p.Contact.Eps, p.Contact.Delta, p.Tau} {
		if r.Den == 0 {
			return api.ErrRange
		}
	}
	if !p.Noise.May() {
		return api.ErrRange
	}
	if len(p.Classes) < 1 || len(p.Classes) > 8 {
		return api.ErrClass
	}
	for _, c := range p.Classes {
		eps, ok := value(c.Eps)
		delta, fine := value(c.Delta)
		if !ok || !fine || eps.Sign() <= 0 || eps.Cmp(big.NewRat(8, 1)) > 0 || delta.Cmp(big.NewRat(1, 1)) >= 0 {
			return api.ErrClass
		}
	}
	if len(p.Contacts) < 1 || len(p.Contacts) > 16 {
		return api.ErrName
	}
	for i := range p.Contacts {
		for k := range i {
			if p.Contacts[k] >= p.Contacts[i] {
				return api.ErrName
			}
		}
	}
	return api.OK
}

// checks looks whether a plan is told to be so, and nothing is encoded of it, if it may not be.
func checks(t *testing.T, what string, p Plan, want api.Errno) {
	t.Helper()
	if e := p.Check(); e != want {
		t.Fatalf("%s: Check %v, not %v, of %+v", what, e, want, p)
	}
	if s, e := p.Encode(); e != want || (s == "") != (want != api.OK) {
		t.Fatalf("%s: Encode %d %v, not %v", what, len(s), e, want)
	}
}

// same tells whether two plans are alike.
func same(a, b Plan) bool {
	if len(a.Classes) == 0 && len(b.Classes) == 0 {
		a.Classes, b.Classes = nil, nil
	}
	if len(a.Contacts) == 0 && len(b.Contacts) == 0 {
		a.Contacts, b.Contacts = nil, nil
	}
	return reflect.DeepEqual(a, b)
}

// changed is a plan with something changed.
func changed(p Plan, do func(p *Plan)) Plan {
	do(&p)
	return p
}

func TestExample(t *testing.T) {
	p := small()
	p.Tau.Den = 0
	checks(t, "Tau of Den 0", p, api.ErrRange)
}

// P18.1: what comes to the ends of what is allowed may be.
func TestMay(t *testing.T) {
	for _, p := range plans() {
		checks(t, "a plan", p, api.OK)
		if told(p) != api.OK {
			t.Fatalf("the test's own: %+v", p)
		}
	}
}

// P18.1: Mode, Prec, Length and Queue, about their ends.
func TestCheckNumbers(t *testing.T) {
	for _, c := range []struct {
		what        string
		least, most int
		set         func(p *Plan, n int)
	}{
		{"Mode", 0, 1, func(p *Plan, n int) { p.Mode, p.Slack = Mode(n), Ratio{1, 3} }},
		{"Prec", 8, 64, func(p *Plan, n int) { p.Prec = n }},
		{"Length", 1, 256, func(p *Plan, n int) { p.Length = n }},
		{"Queue", 1, 64, func(p *Plan, n int) { p.Queue = n }},
	} {
		for _, p := range []Plan{small(), least(), greatest()} {
			for n := -3; n < 300; n++ {
				want := api.ErrRange
				if n >= c.least && n <= c.most {
					want = api.OK
				}
				checks(t, c.what, changed(p, func(p *Plan) { c.set(p, n) }), want)
			}
			for _, n := range []int{math.MinInt, math.MinInt32, -1 << 16, -256, 256 + c.most, 1 << 16, 1<<16 + c.least, 1 << 32, 1<<32 + c.least, 1<<32 + c.most, math.MaxInt} {
				if n > c.most || n < c.least {
					checks(t, c.what, changed(p, func(p *Plan) { c.set(p, n) }), api.ErrRange)
				}
			}
		}
	}
}

// P18.1: the Slack is looked at, if the plan is Strong, just then.
func TestCheckSlack(t *testing.T) {
	for r, want := range map[Ratio]api.Errno{
		{1, 2}: api.OK, {2, 4}: api.OK, {1, 3}: api.OK, {1, top}: api.OK, {math.MaxInt32, top}: api.OK, {math.MaxInt32, top - 1}: api.OK, {1 << 31, top}: api.ErrRange,
		{}: api.ErrRange, {0, 1}: api.ErrRange, {0, top}: api.ErrRange, {1, 0}: api.ErrRange, {top, 0}: api.ErrRange, {1, 1}: api.ErrRange, {2, 3}: api.ErrRange, {51, 101}: api.ErrRange,
		{50, 101}: api.OK, {top, top}: api.ErrRange, {top, 1}: api.ErrRange, {1 << 31, 1}: api.ErrRange, {1 << 31, top - 1}: api.ErrRange, {1<<31 + 1, 4}: api.ErrRange,
	} {
		for _, p := range []Plan{small(), least(), greatest()} {
			p.Slack = r
			p.Mode = Strong
			checks(t, "Slack, Strong", p, want)
			p.Mode = Basic
			checks(t, "Slack, Basic", p, api.OK)
		}
	}
}

// P18.1: the costs that are caps, and Tau, are any numbers, but none over 0.
func TestCheckRatios(t *testing.T) {
	for what, part := range map[string]func(p *Plan) *Ratio{
		"Global's Eps": func(p *Plan) *Ratio { return &p.Global.Eps }, "Global's Delta": func(p *Plan) *Ratio { return &p.Global.Delta },
		"Contact's Eps": func(p *Plan) *Ratio { return &p.Contact.Eps }, "Contact's Delta": func(p *Plan) *Ratio { return &p.Contact.Delta },
		"Tau": func(p *Plan) *Ratio { return &p.Tau },
	} {
		for _, p := range []Plan{small(), least(), greatest()} {
			for _, n := range []uint32{0, 1, 2, 1 << 31, top} {
				for _, d := range []uint32{1, 2, 1 << 31, top} {
					checks(t, what, changed(p, func(p *Plan) { *part(p) = Ratio{n, d} }), api.OK)
				}
				checks(t, what, changed(p, func(p *Plan) { *part(p) = Ratio{n, 0} }), api.ErrRange)
			}
		}
	}
}

// P18.1: the law of noise.
func TestCheckNoise(t *testing.T) {
	for _, p := range []Plan{small(), least(), greatest()} {
		for _, n := range []uint64{0, 1, 2, top - 1, top, 1 << 32, 1<<32 + 1, 1 << 63, math.MaxUint64} {
			want := api.OK
			if n < 1 || n > top {
				want = api.ErrRange
			}
			checks(t, "Num", changed(p, func(p *Plan) { p.Noise.Num = n }), want)
			checks(t, "Den", changed(p, func(p *Plan) { p.Noise.Den = n }), want)
		}
		for _, mu := range []int{math.MinInt, -1 << 32, -1, 0, 1, 1<<20 - 1, 1 << 20, 1<<20 + 1, 1 << 32, 1<<32 + 1, math.MaxInt} {
			want := api.OK
			if mu < 0 || mu > 1<<20 {
				want = api.ErrRange
			}
			checks(t, "Mu", changed(p, func(p *Plan) { p.Noise.Mu = mu }), want)
		}
	}
}

// P18.1: how many classes there are, and the numbers of each.
func TestCheckClasses(t *testing.T) {
	class := Cost{one, nought}
	for n := range 20 {
		p, want := small(), api.OK
		p.Classes = nil
		for range n {
			p.Classes = append(p.Classes, class)
		}
		if n < 1 || n > 8 {
			want = api.ErrClass
		}
		checks(t, "classes", p, want)
	}
	p := small()
	p.Classes = []Cost{}
	checks(t, "no classes", p, api.ErrClass)
	p.Classes = make([]Cost, 1<<20)
	checks(t, "many classes", p, api.ErrClass)
	eps := map[Ratio]bool{
		{1, 1}: true, {8, 1}: true, {1, top}: true, {80, 10}: true, {1<<32 - 8, 1<<29 - 1}: true, {top, 1 << 29}: true, {15, 2}: true, {16, 2}: true,
		{}: false, {0, 1}: false, {0, top}: false, {1, 0}: false, {8, 0}: false, {top, 0}: false, {9, 1}: false, {17, 2}: false, {81, 10}: false, {1<<32 - 7, 1<<29 - 1}: false, {top, 1<<29 - 1}: false, {top, 1}: false, {1 << 31, 1}: false,
	}
	delta := map[Ratio]bool{
		{0, 1}: true, {1, 2}: true, {0, top}: true, {top - 1, top}: true, {1, top}: true,
		{}: false, {0, 0}: false, {1, 0}: false, {top, 0}: false, {1, 1}: false, {2, 1}: false, {top, top}: false, {top, top - 1}: false, {top, 1}: false,
	}
	for _, n := range []int{1, 2, 8} {
		for at := range n {
			set := func(c Cost, ok bool) {
				t.Helper()
				p, want := small(), api.OK
				p.Classes = make([]Cost, n)
				for i := range p.Classes {
					p.Classes[i] = class
				}
				p.Classes[at] = c
				if !ok {
					want = api.ErrClass
				}
				checks(t, "a class", p, want)
			}
			for r, ok := range eps {
				set(Cost{r, Ratio{1, 3}}, ok)
			}
			for r, ok := range delta {
				set(Cost{one, r}, ok)
			}
		}
	}
}

// P18.1: how many contacts there are, and that they rise.
func TestCheckContacts(t *testing.T) {
	for n := range 40 {
		p, want := small(), api.OK
		p.Contacts = nil
		for i := range n {
			p.Contacts = append(p.Contacts, uint64(i)*uint64(i)+5)
		}
		if n < 1 || n > 16 {
			want = api.ErrName
		}
		checks(t, "contacts", p, want)
	}
	p := small()
	p.Contacts = make([]uint64, 1<<20)
	checks(t, "many contacts", p, api.ErrName)
	for _, c := range []struct {
		l    []uint64
		want api.Errno
	}{
		{[]uint64{}, api.ErrName}, {[]uint64{0}, api.OK}, {[]uint64{math.MaxUint64}, api.OK}, {[]uint64{0, math.MaxUint64}, api.OK}, {[]uint64{0, 1, 2}, api.OK},
		{[]uint64{1 << 31, 1 << 32, 1 << 63}, api.OK}, {[]uint64{1<<32 + 1, 1 << 33}, api.OK},
		{[]uint64{0, 0}, api.ErrName}, {[]uint64{math.MaxUint64, 0}, api.ErrName}, {[]uint64{math.MaxUint64, math.MaxUint64}, api.ErrName}, {[]uint64{2, 1}, api.ErrName},
		{[]uint64{1, 1, 2}, api.ErrName}, {[]uint64{1, 2, 2}, api.ErrName}, {[]uint64{1, 3, 2}, api.ErrName}, {[]uint64{3, 1, 2}, api.ErrName}, {[]uint64{1, 2, 1}, api.ErrName},
		{[]uint64{1 << 33, 1<<32 + 1}, api.ErrName}, {[]uint64{1, 2, 3, 4, 5, 6, 7, 8, 9, 10, 11, 12, 13, 14, 15, 15}, api.ErrName},
	} {
		p.Contacts = c.l
		checks(t, "contacts", p, c.want)
	}
}

// P18.1: of several errors the first: ErrRange, ErrClass, ErrName, whichever number has it.
func TestCheckFirst(t *testing.T) {
	ranges := []func(p *Plan){
		func(p *Plan) { p.Mode = 2 }, func(p *Plan) { p.Prec = 7 }, func(p *Plan) { p.Length = 0 }, func(p *Plan) { p.Queue = 65 }, func(p *Plan) { p.Mode, p.Slack = Strong, one },
		func(p *Plan) { p.Global.Eps.Den = 0 }, func(p *Plan) { p.Global.Delta.Den = 0 }, func(p *Plan) { p.Contact.Eps.Den = 0 }, func(p *Plan) { p.Contact.Delta.Den = 0 },
		func(p *Plan) { p.Tau.Den = 0 }, func(p *Plan) { p.Noise.Den = 0 },
	}
	classes := []func(p *Plan){
		func(p *Plan) { p.Classes = nil }, func(p *Plan) { p.Classes = []Cost{{one, one}} }, func(p *Plan) { p.Classes = []Cost{{nought, nought}} }, func(p *Plan) { p.Classes = make([]Cost, 9) },
	}
	names := []func(p *Plan){
		func(p *Plan) { p.Contacts = nil }, func(p *Plan) { p.Contacts = []uint64{2, 1} }, func(p *Plan) { p.Contacts = make([]uint64, 17) },
	}
	for _, r := range ranges {
		for _, c := range classes {
			for _, n := range names {
				for _, p := range []Plan{small(), greatest()} {
					checks(t, "a class and a contact", changed(changed(p, c), n), api.ErrClass)
					checks(t, "a number and a class", changed(changed(p, r), c), api.ErrRange)
					checks(t, "a number and a contact", changed(changed(p, r), n), api.ErrRange)
					checks(t, "all three", changed(changed(changed(p, n), r), c), api.ErrRange)
				}
			}
		}
	}
	checks(t, "the zero plan", Plan{}, api.ErrRange)
}

// P18.1: plans of which any numbers are changed, against the chapter's words.
func TestCheckAny(t *testing.T) {
	r := rand.New(rand.NewPCG(18, 2))
	for range 20000 {
		p := some(r)
		for range r.IntN(3) {
			spoil(r, &p)
		}
		checks(t, "any plan", p, told(p))
	}
}

// spoil changes a number of a plan into any one.
func spoil(r *rand.Rand, p *Plan) {
	turn := func(x *Ratio) { *x = Ratio{uint32(number(r, 0, top)), uint32(number(r, 0, top))} }
	ints := []*int{&p.Prec, &p.Length, &p.Queue, &p.Noise.Mu}
	ratios := []*Ratio{&p.Slack, &p.Global.Eps, &p.Global.Delta, &p.Contact.Eps, &p.Contact.Delta, &p.Tau}
	for i := range p.Classes {
		ratios = append(ratios, &p.Classes[i].Eps, &p.Classes[i].Delta)
	}
	switch r.IntN(7) {
	case 0:
		p.Mode = Mode(r.IntN(4) - 1)
	case 1:
		*ints[r.IntN(len(ints))] = int(random(r))
	case 2, 3:
		turn(ratios[r.IntN(len(ratios))])
	case 4:
		p.Noise.Num = random(r)
	case 5:
		p.Noise.Den = random(r)
	case 6:
		p.Contacts[r.IntN(len(p.Contacts))] = random(r)
	}
}

// P18.1: a ratio as a fraction, in lowest terms; none over 0.
func TestRat(t *testing.T) {
	some := []uint32{0, 1, 2, 3, 4, 6, 12, 1 << 16, 1 << 31, top - 1, top}
	for _, n := range some {
		for _, d := range some {
			a, e := Ratio{n, d}.Rat()
			if d == 0 {
				if e != api.ErrZero || a.String() != "0/1" {
					t.Fatal(n, d, a, e)
				}
				continue
			}
			if want := big.NewRat(int64(n), int64(d)).String(); e != api.OK || a.String() != want {
				t.Fatal(n, d, a, e, "not", want)
			}
		}
	}
	if a, e := (Ratio{6, 4}).Rat(); a.String() != "3/2" || e != api.OK {
		t.Fatal(a, e)
	}
}

// P18.1: a contact's number, or -1.
func TestFind(t *testing.T) {
	for _, p := range plans() {
		for i, c := range p.Contacts {
			if at := p.Find(c); at != i {
				t.Fatal(p.Contacts, c, at)
			}
			for _, near := range []uint64{c - 1, c + 1, c ^ 1<<32, c ^ 1<<63, uint64(i)} {
				want := -1
				for k, other := range p.Contacts {
					if other == near {
						want = k
					}
				}
				if at := p.Find(near); at != want {
					t.Fatal(p.Contacts, near, at, want)
				}
			}
		}
	}
	if at := (Plan{}).Find(0); at != -1 {
		t.Fatal(at)
	}
	if at := small().Find(20); at != 1 {
		t.Fatal(at)
	}
	// Of a plan that may not be, too.
	for _, c := range []struct {
		l        []uint64
		name     uint64
		expected int
	}{{[]uint64{3, 2, 1}, 1, 2}, {[]uint64{3, 2, 1}, 3, 0}, {[]uint64{3, 2, 1}, 0, -1}, {[]uint64{}, 0, -1}, {make([]uint64, 100), 1, -1}} {
		if at := (Plan{Contacts: c.l}).Find(c.name); at != c.expected {
			t.Fatal(c, at)
		}
	}
}

// R3: what is handed in, with the room behind its end, is neither changed nor kept.
func TestNothingIsShared(t *testing.T) {
	p, q := small(), small()
	classes, contacts := append(small().Classes, Cost{Ratio{5, 6}, Ratio{7, 8}}), append(small().Contacts, 99)
	p.Classes, p.Contacts = classes[:2], contacts[:2]
	s, e := p.Encode()
	if e != api.OK || p.Check() != api.OK || p.Find(99) != -1 || !same(p, q) || classes[2] != (Cost{Ratio{5, 6}, Ratio{7, 8}}) || contacts[2] != 99 {
		t.Fatal(p, classes, contacts, e)
	}
	again := strings.Clone(s)
	p.Classes[0], p.Contacts[0] = Cost{}, 0
	if s != again {
		t.Fatal("the bytes were changed")
	}
	a, e := Decode(s)
	b, f := Decode(s)
	if e != api.OK || f != api.OK {
		t.Fatal(e, f)
	}
	a.Classes[0], a.Contacts[0] = Cost{}, 0
	if !same(b, q) || s != again {
		t.Fatal("two plans share a list", b)
	}
}
