package cdf

import (
	"math"
	"math/big"
	"math/rand/v2"
	"slices"
	"testing"

	"chaff/api"
	"chaff/exp"
	"chaff/nat"
	"chaff/noise"
	"chaff/rat"
	"chaff/span"
	"chaff/tape"
)

// The tests reckon anew by math/big, which the program itself may not call: spans out of layer 4's, as the chapter tells them, and chances out of those of the noises, as layer 9 tells them.

func two(n int) *big.Int { return new(big.Int).Lsh(big.NewInt(1), uint(n)) }

func plus(v, w *big.Int) *big.Int { return new(big.Int).Add(v, w) }

func less(v, w *big.Int) *big.Int { return new(big.Int).Sub(v, w) }

func times(v, w *big.Int) *big.Int { return new(big.Int).Mul(v, w) }

// down and up are v over d, as whole numbers.
func down(v, d *big.Int) *big.Int { return new(big.Int).Div(v, d) }

func up(v, d *big.Int) *big.Int { return down(less(plus(v, d), big.NewInt(1)), d) }

func toBig(a nat.Nat) *big.Int {
	v := new(big.Int)
	for _, w := range slices.Backward(a.Words()) {
		v.Or(v.Lsh(v, 64), new(big.Int).SetUint64(w))
	}
	return v
}

// check holds a span against what it should be.
func check(t *testing.T, what any, got span.Span, e api.Errno, lo, hi *big.Int, p int) {
	t.Helper()
	if e != api.OK || toBig(got.Lo).Cmp(lo) != 0 || toBig(got.Hi).Cmp(hi) != 0 || got.P != p || !got.May() {
		t.Fatal(what, got.Lo, got.Hi, got.P, e, "not", lo, hi, p)
	}
}

// wrong looks whether both calls have ErrRange, beside which the span is zero.
func wrong(t *testing.T, l noise.Law, x, p int) {
	t.Helper()
	for _, call := range []func(noise.Law, int, int) (span.Span, api.Errno){AtMost, Just} {
		if a, e := call(l, x, p); e != api.ErrRange || a.Lo.Words() != nil || a.Hi.Words() != nil || a.P != 0 {
			t.Fatal(l, x, p, a, e)
		}
	}
}

// minus are both ends of layer 4's span of e to the less g n.
func minus(t *testing.T, l noise.Law, n int64, p int) (lo, hi *big.Int) {
	t.Helper()
	x := new(big.Rat).SetFrac(times(new(big.Int).SetUint64(l.Num), big.NewInt(n)), new(big.Int).SetUint64(l.Den))
	r, e := rat.Parse(x.Num().String() + "/" + x.Denom().String())
	if e != api.OK {
		t.Fatal(x, e)
	}
	a, e := exp.Minus(r, p)
	if e != api.OK {
		t.Fatal(x, p, e)
	}
	return toBig(a.Lo), toBig(a.Hi)
}

// told are both ends of what AtMost should answer, as the chapter reckons them.
func told(t *testing.T, l noise.Law, x, p int) (lo, hi *big.Int) {
	t.Helper()
	if x < 0 {
		return new(big.Int), new(big.Int)
	}
	n := int64(l.Mu) - int64(x)
	if x >= l.Mu {
		n = int64(x) - int64(l.Mu) + 1
	}
	one := two(p)
	eLo, eHi := minus(t, l, 1, p)
	wLo, wHi := minus(t, l, n, p)
	lo = down(times(wLo, down(times(one, one), plus(one, eHi))), one)
	hi = up(times(wHi, up(times(one, one), plus(one, eLo))), one)
	if x >= l.Mu {
		return less(one, hi), less(one, lo)
	}
	return lo, hi
}

// hold holds both calls against what the chapter tells.
func hold(t *testing.T, l noise.Law, x, p int) {
	t.Helper()
	lo, hi := told(t, l, x, p)
	a, e := AtMost(l, x, p)
	check(t, []any{"AtMost", l, x}, a, e, lo, hi, p)
	if x > 0 {
		low, high := told(t, l, x-1, p)
		lo, hi = less(lo, high), less(hi, low)
		if lo.Sign() < 0 {
			lo = new(big.Int)
		}
	}
	b, e := Just(l, x, p)
	check(t, []any{"Just", l, x}, b, e, lo, hi, p)
}

// laws are some that may be, small ones and such as come to an end of what is allowed.
func laws() []noise.Law {
	var out []noise.Law
	for _, c := range [][2]uint64{{1, 1}, {1, 2}, {3, 7}, {7, 3}, {1, 100}, {64, 1}, {65, 1}, {1<<32 - 1, 1}, {1, 1<<32 - 1}, {1<<32 - 1, 1<<32 - 1}, {1<<32 - 2, 1<<32 - 1}} {
		for _, mu := range []int{0, 1, 100, 1 << 20} {
			out = append(out, noise.Law{Num: c[0], Den: c[1], Mu: mu})
		}
	}
	return out
}

// about are counts about an edge of a law, and about the ends of what is allowed.
func about(l noise.Law) []int {
	out := []int{-1, 0, 1, 2, l.Mu/2 + 1, 2*l.Mu + 1, 1 << 20, 1 << 31, 1<<32 - 1, 1 << 32, 1<<32 + 1, 1<<40 - 1, 1 << 40}
	far := int(64 * l.Den / l.Num) // there the power is above 64
	for by := -2; by <= 2; by++ {
		out = append(out, l.Mu+by, l.Mu-far+by, l.Mu+far+by)
	}
	return out
}

var depths = []int{1, 2, 10, 33, 63, 64}

func TestExample(t *testing.T) {
	a, e := AtMost(noise.Law{Num: 1, Den: 1}, 0, 10)
	check(t, "at most 0", a, e, big.NewInt(748), big.NewInt(750), 10)
}

// P11.1, P11.2: both spans, just as the chapter reckons them.
func TestAsTold(t *testing.T) {
	for _, l := range laws() {
		for _, x := range about(l) {
			for _, p := range depths {
				hold(t, l, x, p)
			}
		}
	}
}

// law is any law that may be.
func law(r *rand.Rand) noise.Law {
	some := func(bits int) uint64 { return 1 + r.Uint64N(1<<(1+r.IntN(bits))-1) }
	return noise.Law{Num: some(32), Den: some(32), Mu: int(some(20)) - r.IntN(2)}
}

// P11.1, P11.2: of any laws, any counts and each P.
func TestAnyAsTold(t *testing.T) {
	r := rand.New(rand.NewPCG(11, 1))
	for i := range 3000 {
		l := law(r)
		x := l.Mu + int(r.NormFloat64()*4*float64(l.Den)/float64(l.Num))
		hold(t, l, min(max(x, -1), 1<<40), 1+i%64)
		hold(t, l, r.IntN(l.Mu+1), 1+i%64)
		hold(t, l, r.IntN(1<<40+1), 1+i%64)
	}
}

// P11.1, P11.2: no count is below 0, of all that an int may be.
func TestBelow(t *testing.T) {
	for _, l := range laws() {
		for _, x := range []int{-1, -2, -1 << 20, -1 << 40, -1<<40 - 1, math.MinInt + 1, math.MinInt} {
			for _, p := range depths {
				hold(t, l, x, p)
			}
		}
	}
}

// P11.2: of 0 it is what is at most 0; else less by what is at most one less.
func TestJust(t *testing.T) {
	for _, l := range laws() {
		for _, p := range depths {
			a, _ := AtMost(l, 0, p)
			b, e := Just(l, 0, p)
			check(t, l, b, e, toBig(a.Lo), toBig(a.Hi), p)
			for x := 1; x < 5; x++ {
				next, _ := AtMost(l, x, p)
				want, wrong := next.Sub(a)
				b, e := Just(l, x, p)
				if wrong != api.OK {
					t.Fatal(l, x, p, wrong)
				}
				check(t, l, b, e, toBig(want.Lo), toBig(want.Hi), p)
				a = next
			}
		}
	}
}

// never are laws that may not be, by each of their parts alone, and by all.
func never() []noise.Law {
	out := []noise.Law{{}, {Mu: 5}, {Num: 1}, {Den: 1}, {Mu: -1}}
	for _, n := range []uint64{0, 1 << 32, 1<<32 + 1, 1<<63 + 1, math.MaxUint64} {
		out = append(out, noise.Law{Num: n, Den: 1}, noise.Law{Num: 1, Den: n}, noise.Law{Num: n, Den: n, Mu: 1 << 20})
	}
	for _, mu := range []int{-1, 1<<20 + 1, 1 << 32, math.MinInt, math.MaxInt} {
		out = append(out, noise.Law{Num: 1, Den: 1, Mu: mu}, noise.Law{Num: 1<<32 - 1, Den: 1<<32 - 1, Mu: mu})
	}
	return out
}

// P11.1, P11.2: a law that may not be, a P that may not, a count too far off: each alone, also where no count is.
func TestWrong(t *testing.T) {
	beyond := []int{1<<40 + 1, 1<<40 + 2, 1 << 41, math.MaxInt - 1, math.MaxInt}
	off := []int{0, -1, 65, 128, 1024, math.MinInt, math.MaxInt}
	within := []int{math.MinInt, -1, 0, 1, 5, 1 << 20, 1 << 40}
	for _, l := range laws() {
		for _, p := range append(off, depths...) {
			for _, x := range beyond {
				wrong(t, l, x, p)
			}
		}
		for _, p := range off {
			for _, x := range within {
				wrong(t, l, x, p)
			}
		}
	}
	for _, l := range never() {
		for _, p := range append(off, depths...) {
			for _, x := range append(within, beyond...) {
				wrong(t, l, x, p)
			}
		}
	}
}

const fine = 500 // how many bits the tests' own reckoning has

func float(v int64) *big.Float { return new(big.Float).SetPrec(fine).SetInt64(v) }

func product(a, b *big.Float) *big.Float { return new(big.Float).SetPrec(fine).Mul(a, b) }

func quotient(a, b *big.Float) *big.Float { return new(big.Float).SetPrec(fine).Quo(a, b) }

func sum(a, b *big.Float) *big.Float { return new(big.Float).SetPrec(fine).Add(a, b) }

func difference(a, b *big.Float) *big.Float { return new(big.Float).SetPrec(fine).Sub(a, b) }

// decay is e to the less num over den: the power of so small a part that its terms soon are, squared again and again.
func decay(num, den uint64) *big.Float {
	const halvings = 80
	x := quotient(new(big.Float).SetUint64(num), new(big.Float).SetUint64(den))
	x.SetMantExp(x, -halvings)
	out, term := float(1), float(1)
	for k := int64(1); k < 20; k++ {
		term = quotient(product(term, x), float(-k))
		out = sum(out, term)
	}
	for range halvings {
		out = product(out, out)
	}
	return out
}

// chances are those of the counts 0, 1, .. up to most, out of the noises' chances: z has (1 - q) over (1 + q), times q to the |z|; what is left beyond the last one is told, too.
func chances(l noise.Law, most int) (out []*big.Float, beyond *big.Float) {
	q := decay(l.Num, l.Den)
	middle := quotient(difference(float(1), q), sum(float(1), q))
	by := []*big.Float{middle}
	// Beyond the middle both sides have the same chance.
	side := quotient(difference(float(1), middle), float(2))
	sides := []*big.Float{side}
	for range max(l.Mu, most) {
		by = append(by, product(by[len(by)-1], q))
		side = difference(side, by[len(by)-1])
		sides = append(sides, side)
	}
	out = append(out, sum(sides[l.Mu], by[l.Mu]))
	for x := 1; x <= most; x++ {
		out = append(out, by[max(x-l.Mu, l.Mu-x)])
	}
	return out, sides[most-l.Mu]
}

// has looks whether a chance is in its span, but for what the tests' own reckoning leaves open, and whether the span is as narrow as is promised.
func has(t *testing.T, what any, a span.Span, e api.Errno, chance *big.Float) {
	t.Helper()
	slack := new(big.Float).SetPrec(fine).SetMantExp(float(1), 200-fine)
	v := new(big.Float).SetMantExp(chance, a.P)
	lo, hi := new(big.Float).SetPrec(fine).SetInt(toBig(a.Lo)), new(big.Float).SetPrec(fine).SetInt(toBig(a.Hi))
	if e != api.OK || difference(lo, slack).Cmp(v) > 0 || sum(hi, slack).Cmp(v) < 0 {
		t.Fatal(what, a.Lo, a.Hi, a.P, e, "doesn't have", v.Text('g', 30))
	}
	if less(toBig(a.Hi), toBig(a.Lo)).Cmp(big.NewInt(8)) > 0 {
		t.Fatal(what, a.Lo, a.Hi, a.P, "is wide")
	}
}

// near are laws all of whose counts that matter may be gone through.
func near() []noise.Law {
	return []noise.Law{
		{Num: 1, Den: 1}, {Num: 1, Den: 1, Mu: 5}, {Num: 1, Den: 1, Mu: 100}, {Num: 3, Den: 2, Mu: 1}, {Num: 2, Den: 7, Mu: 20},
		{Num: 70, Den: 1, Mu: 3}, {Num: 1<<32 - 1, Den: 1, Mu: 2}, {Num: 1<<32 - 1, Den: 1 << 31, Mu: 9}, {Num: 1, Den: 8, Mu: 50},
	}
}

// P11.3: each chance, at most and just, is in its span; together they have 1.
func TestTrue(t *testing.T) {
	tiny := new(big.Float).SetMantExp(float(1), -100)
	for _, l := range near() {
		most := l.Mu + int(100*l.Den/l.Num) + 10
		each, beyond := chances(l, most)
		for _, p := range depths {
			lo, hi, upTo := new(big.Int), new(big.Int), float(0)
			for x, chance := range each {
				a, e := Just(l, x, p)
				has(t, []any{"Just", l, x}, a, e, chance)
				lo, hi = plus(lo, toBig(a.Lo)), plus(hi, toBig(a.Hi))
				upTo = sum(upTo, chance)
				a, e = AtMost(l, x, p)
				has(t, []any{"AtMost", l, x}, a, e, upTo)
			}
			// What is beyond is so little that the span's least part has more.
			if lo.Cmp(two(p)) > 0 || hi.Cmp(two(p)) < 0 || beyond.Cmp(tiny) > 0 {
				t.Fatal(l, p, lo, hi, beyond)
			}
		}
	}
}

// P11.3: what doesn't matter for a law that decays slowly can't be gone through; about its middle the chances are.
func TestSlow(t *testing.T) {
	for _, l := range []noise.Law{{Num: 1, Den: 1<<32 - 1, Mu: 3}, {Num: 1, Den: 1000003, Mu: 300}, {Num: 1<<20 + 1, Den: 1<<32 - 1, Mu: 50}} {
		each, _ := chances(l, l.Mu+50)
		for _, p := range depths {
			upTo := float(0)
			for x, chance := range each {
				a, e := Just(l, x, p)
				has(t, []any{"Just", l, x}, a, e, chance)
				upTo = sum(upTo, chance)
				a, e = AtMost(l, x, p)
				has(t, []any{"AtMost", l, x}, a, e, upTo)
			}
		}
	}
}

// P11.3: neither end falls from one count to the next, or to one far off; no end is above 1, and no span is too wide; at last it has 1.
func TestRises(t *testing.T) {
	r := rand.New(rand.NewPCG(11, 2))
	for i := range 1500 {
		l, p := law(r), 1+i%64
		xs := append(about(l), r.IntN(1<<20), r.IntN(1<<20), l.Mu-r.IntN(l.Mu+1), -7)
		xs = slices.DeleteFunc(xs, func(x int) bool { return x > 1<<40 })
		slices.Sort(xs)
		lo, hi := new(big.Int), new(big.Int)
		for _, x := range xs {
			a, e := AtMost(l, x, p)
			low, high := toBig(a.Lo), toBig(a.Hi)
			if e != api.OK || low.Cmp(lo) < 0 || high.Cmp(hi) < 0 || high.Cmp(two(p)) > 0 || less(high, low).Cmp(big.NewInt(8)) > 0 {
				t.Fatal(l, x, p, low, high, e, "behind", lo, hi)
			}
			lo, hi = low, high
		}
		if 64*l.Den/l.Num < 1<<39 && hi.Cmp(two(p)) != 0 {
			t.Fatal(l, p, hi)
		}
	}
}

// P11.3: a chance is that of the tapes. Of all those of 16 bits the part that leads to so great a count is at most what the span allows, and it is so with all that lead to nothing yet.
func TestTapes(t *testing.T) {
	const bits = 16
	for _, l := range []noise.Law{{Num: 1, Den: 1, Mu: 2}, {Num: 3, Den: 2}, {Num: 1, Den: 3, Mu: 4}} {
		met, open := make(map[int]uint64), uint64(0)
		for n := range 1 << bits {
			x, _, e := l.Count(tape.New(string([]byte{byte(n >> 8), byte(n)})))
			if e == api.OK {
				met[x]++
			} else {
				open++
			}
		}
		upTo := uint64(0)
		for x := range 12 {
			upTo += met[x]
			heldTapes(t, l, x, upTo, open, bits, AtMost)
			heldTapes(t, l, x, met[x], open, bits, Just)
		}
		if open > 1<<bits/2 {
			t.Fatal(l, "so few tapes lead to a count:", open)
		}
	}
}

// heldTapes holds a chance against how many tapes of so many bits lead to it, and how many to nothing yet.
func heldTapes(t *testing.T, l noise.Law, x int, some, open uint64, bits int, call func(noise.Law, int, int) (span.Span, api.Errno)) {
	t.Helper()
	a, e := call(l, x, 40)
	least, _ := rat.Of(some, 1<<bits)
	most, _ := rat.Of(some+open, 1<<bits)
	lo, _ := rat.New(a.Lo, whole(40).Lo)
	hi, _ := rat.New(a.Hi, whole(40).Lo)
	if e != api.OK || least.Cmp(hi) > 0 || most.Cmp(lo) < 0 {
		t.Fatal(l, x, lo, hi, "not from", least, "to", most, e)
	}
}

// What is told first goes wrong first: nothing behind it is done.
func TestAlong(t *testing.T) {
	good := func() (span.Span, api.Errno) { return whole(8), api.OK }
	bad := func() (span.Span, api.Errno) { return whole(8), api.ErrBits }
	worse := func(span.Span) (span.Span, api.Errno) { return whole(9), api.ErrSign }
	never := func(span.Span) (span.Span, api.Errno) { t.Error("was done"); return whole(9), api.OK }
	zero := func(a span.Span, e, want api.Errno) {
		t.Helper()
		if e != want || !a.Hi.Zero() || a.P != 0 {
			t.Fatal(a, e, "not", want)
		}
	}
	a, e := along(bad, never)
	zero(a, e, api.ErrBits)
	a, e = along(good, worse, never)
	zero(a, e, api.ErrSign)
	a, e = along(good, with(bad, func(a, b span.Span) (span.Span, api.Errno) { return never(a) }))
	zero(a, e, api.ErrBits)
	a, e = along(good, whole(8).Add, span.Span.Invert)
	check(t, "a half", a, e, big.NewInt(128), big.NewInt(128), 8)
}

// The same call answers the same, whatever is done to what was answered.
func TestNothingIsShared(t *testing.T) {
	l := noise.Law{Num: 1, Den: 1, Mu: 2}
	for range 2 {
		for _, x := range []int{-1, 0, 1, 2, 3} {
			hold(t, l, x, 30)
			a, _ := AtMost(l, x, 30)
			b, _ := Just(l, x, 30)
			for _, n := range []nat.Nat{a.Lo, a.Hi, b.Lo, b.Hi} {
				if w := n.Words(); len(w) > 0 {
					w[0] = 99
				}
			}
		}
	}
}
