package exp

import (
	"math"
	"math/big"
	"math/rand/v2"
	"slices"
	"testing"

	"chaff/api"
	"chaff/nat"
	"chaff/rat"
	"chaff/span"
)

// The tests reckon anew by math/big, which the program itself may not call.

func two(n int) *big.Int { return new(big.Int).Lsh(big.NewInt(1), uint(n)) }

// plus is v with a small number added.
func plus(v *big.Int, n int64) *big.Int { return new(big.Int).Add(v, big.NewInt(n)) }

func times(v, w *big.Int) *big.Int { return new(big.Int).Mul(v, w) }

// down and up are v over d, as whole numbers.
func down(v, d *big.Int) *big.Int { return new(big.Int).Div(v, d) }

func up(v, d *big.Int) *big.Int { return down(plus(new(big.Int).Add(v, d), -1), d) }

func toBig(a nat.Nat) *big.Int {
	v := new(big.Int)
	for _, w := range slices.Backward(a.Words()) {
		v.Or(v.Lsh(v, 64), new(big.Int).SetUint64(w))
	}
	return v
}

// over is n over d.
func over(n, d *big.Int) *big.Rat { return new(big.Rat).SetFrac(n, d) }

func whole(n int64) *big.Rat { return big.NewRat(n, 1) }

func fraction(t testing.TB, x *big.Rat) rat.Rat {
	t.Helper()
	a, e := rat.Parse(x.Num().String() + "/" + x.Denom().String())
	if e != api.OK {
		t.Fatal(x, e)
	}
	return a
}

// check holds a span against what it should be.
func check(t *testing.T, what string, got span.Span, e api.Errno, lo, hi *big.Int, p int) {
	t.Helper()
	if e != api.OK || toBig(got.Lo).Cmp(lo) != 0 || toBig(got.Hi).Cmp(hi) != 0 || got.P != p || !got.May() {
		t.Fatalf("%s: %v %v, not %v %v %v", what, got, e, lo, hi, p)
	}
}

// wrong holds an answer against an error, beside which the span is zero.
func wrong(t *testing.T, what string, got span.Span, e, want api.Errno) {
	t.Helper()
	if e != want || got.Lo.Words() != nil || got.Hi.Words() != nil || got.P != 0 {
		t.Fatalf("%s: %v %v, not zero %v", what, got, e, want)
	}
}

// sums are both sums of the terms of x by P q, as the chapter tells them, ahead of the cut.
func sums(x *big.Rat, q int) (lo, hi *big.Int) {
	n, d := x.Num(), x.Denom()
	from := plus(times(big.NewInt(2), up(n, d)), 2)
	low, high := two(q), two(q)
	lo, hi = two(q), two(q)
	for k := int64(1); ; k++ {
		by := times(d, big.NewInt(k))
		low, high = down(times(low, n), by), up(times(high, n), by)
		lo.Add(lo, low)
		hi.Add(hi, high)
		if big.NewInt(k).Cmp(from) >= 0 && high.Cmp(big.NewInt(1)) <= 0 {
			return lo, hi.Add(hi, high)
		}
	}
}

// told is what Exp should answer.
func told(x *big.Rat, p int) (lo, hi *big.Int) {
	lo, hi = sums(x, p+128)
	return down(lo, two(128)), up(hi, two(128))
}

// hold holds both calls, where p is one for them, against what the chapter tells.
func hold(t *testing.T, x *big.Rat, p int) {
	t.Helper()
	r := fraction(t, x)
	lo, hi := told(x, p)
	a, e := Exp(r, p)
	check(t, "Exp", a, e, lo, hi, p)
	if p <= 64 {
		b, e := Minus(r, p)
		check(t, "Minus", b, e, down(two(2*p), hi), up(two(2*p), lo), p)
	}
}

// samples are x from 0 to 64: small ones, whole ones and their neighbours, and such as have as many bits as they may.
func samples() []*big.Rat {
	out := []*big.Rat{whole(0), big.NewRat(1, 2), big.NewRat(1, 3), big.NewRat(2, 3), big.NewRat(355, 113), big.NewRat(63, 2), big.NewRat(6399, 100)}
	for n := range int64(64) {
		out = append(out, whole(n+1), big.NewRat(1000000*n+1, 1000000), big.NewRat(1000000*n+999999, 1000000))
	}
	most := plus(two(1024), -1)
	out = append(out, over(big.NewInt(1), most), over(plus(most, -1), most), over(most, plus(most, -1)), over(most, two(1023)))
	return append(out, over(most, two(1018)), over(plus(two(1023), -1), two(1017)), over(plus(two(1023), 1), two(1018)))
}

var depths = []int{1, 2, 8, 63, 64, 65, 127, 128}

func TestExample(t *testing.T) {
	one, _ := rat.Of(1, 1)
	a, e := Exp(one, 8)
	check(t, "e", a, e, big.NewInt(695), big.NewInt(696), 8)
	b, e := Minus(one, 8)
	check(t, "1 over e", b, e, big.NewInt(94), big.NewInt(95), 8)
}

// P4.1: both spans, just as the chapter reckons them.
func TestAsTold(t *testing.T) {
	for _, x := range samples() {
		for _, p := range depths {
			hold(t, x, p)
		}
	}
	r := rand.New(rand.NewPCG(4, 1))
	for range 300 {
		d := r.Int64N(1<<40) + 1
		hold(t, big.NewRat(r.Int64N(64*d+1), d), 1+r.IntN(128))
	}
}

// near is the greatest n of which the end of e to the n over 2^1016, ahead of the cut, isn't above what it is held against.
func near(end func(x *big.Rat) *big.Int, against *big.Int) *big.Int {
	n, step := new(big.Int), two(1021)
	for ; step.Sign() > 0; step = down(step, big.NewInt(2)) {
		next := new(big.Int).Add(n, step)
		if end(over(next, two(1016))).Cmp(against) <= 0 {
			n = next
		}
	}
	return n
}

// P4.1: x of which an end lies, ahead of the cut, next to where the cut goes to another number. There each term, and how it is rounded, tells: so does the place of the last one, and that it counts twice.
func TestNextToTheCut(t *testing.T) {
	low := func(x *big.Rat, p int) *big.Int { lo, _ := sums(x, p+128); return lo }
	high := func(x *big.Rat, p int) *big.Int { _, hi := sums(x, p+128); return hi }
	for _, p := range []int{1, 64, 128} {
		// As no x comes to less than 1, of 1 the next number is taken. By P 128 its x is so small that terms soon are: there it tells which k the last one may have.
		edges := []*big.Int{plus(two(p), 1), two(p + 1), times(big.NewInt(50), two(p)), two(p + 40)}
		for _, v := range edges {
			edge := times(v, two(128))
			aboutEdge(t, near(func(x *big.Rat) *big.Int { return low(x, p) }, plus(edge, -1)), v, p)
			aboutEdge(t, near(func(x *big.Rat) *big.Int { return high(x, p) }, edge), v, p)
		}
	}
}

// aboutEdge holds what is about n over 2^1016, each further by as much as makes the sums, which by P p are about the edge, greater by about 1.
func aboutEdge(t *testing.T, n, edge *big.Int, p int) {
	t.Helper()
	step := down(two(1016-128), edge)
	at := func(by int64) *big.Rat { return over(new(big.Int).Add(n, times(step, big.NewInt(by))), two(1016)) }
	for by := int64(-3); by <= 4; by++ {
		hold(t, at(by), p)
	}
	lo, hi := told(at(-3), p)
	low, high := told(at(4), p)
	if lo.Cmp(low) == 0 && hi.Cmp(high) == 0 {
		t.Fatal("no edge there:", n, edge, p)
	}
}

// P4.1: of 0 all terms but the 0th are 0.
func TestZero(t *testing.T) {
	for _, p := range depths {
		a, e := Exp(rat.Rat{}, p)
		check(t, "e to the 0", a, e, two(p), two(p), p)
		if p > api.MaxPrec {
			continue
		}
		b, e := Minus(rat.Rat{}, p)
		check(t, "e to the less 0", b, e, two(p), two(p), p)
	}
}

// P4.1: Minus of an x above 64, and of 64.
func TestFarOff(t *testing.T) {
	most := plus(two(1024), -1)
	for _, x := range []*big.Rat{whole(65), whole(1000), over(most, big.NewInt(1)), over(plus(two(1023), 1), two(1017)), big.NewRat(6400001, 100000)} {
		for p := 1; p <= 64; p++ {
			a, e := Minus(fraction(t, x), p)
			check(t, "Minus", a, e, new(big.Int), big.NewInt(1), p)
		}
	}
	sixtyFour := fraction(t, whole(64))
	a, e := Exp(sixtyFour, 1)
	n, _ := new(big.Int).SetString("12470298161623233765818477417", 10)
	check(t, "e to the 64", a, e, n, plus(n, 1), 1)
	b, e := Minus(sixtyFour, 64)
	check(t, "e to the less 64", b, e, new(big.Int), big.NewInt(1), 64)
}

// Errors, each ahead of the next.
func TestWrong(t *testing.T) {
	most := plus(two(1024), -1)
	within := []*big.Rat{whole(0), whole(1), whole(64), over(most, two(1018))}
	above := []*big.Rat{whole(65), big.NewRat(640001, 10000), over(plus(two(1023), 1), two(1017)), over(most, big.NewInt(1))}
	wide := []*big.Rat{
		over(two(1024), big.NewInt(1)), over(big.NewInt(1), two(1024)), over(two(1024), most), over(most, two(1024)),
		over(plus(two(4096), -1), big.NewInt(1)), over(big.NewInt(1), plus(two(4096), -1)), over(plus(two(4096), -1), plus(two(4096), -2)),
	}
	refused := func(what string, call func(rat.Rat, int) (span.Span, api.Errno), xs []*big.Rat, ps []int, want api.Errno) {
		t.Helper()
		for _, x := range xs {
			for _, p := range ps {
				a, e := call(fraction(t, x), p)
				wrong(t, what, a, e, want)
			}
		}
	}
	off := []int{0, -1, 129, 1024, math.MinInt, math.MaxInt}
	all := slices.Concat(within, above, wide)
	refused("Exp", Exp, all, off, api.ErrRange)
	refused("Exp, wide", Exp, wide, depths, api.ErrLimit)
	refused("Exp, above", Exp, above, depths, api.ErrRange)
	refused("Minus", Minus, all, append(off, 65, 128), api.ErrRange)
	refused("Minus, wide", Minus, wide, []int{1, 2, 63, 64}, api.ErrLimit)
}

// known are e to the x and to the less x, reckoned elsewhere: times 2^128, and times 2^64, down.
func known() map[string][2]string {
	return map[string][2]string{
		"1":         {"924983374546220337150911035843336795079", "6786177901268885274"},
		"2":         {"2514365498655717699434277416465328696993", "2496495334008788799"},
		"64":        {"2121711287323490807149623713423883655567519326077383220249121773458", "0"},
		"1/3":       {"474902299312565460838580510675219416384", "13217669706954385033"},
		"63/2":      {"16297298680835365743178479161709187958597584474955964", "385162"},
		"1/1000000": {"340282707203475525642012282036698531831", "18446725626974701275"},
		"355/113":   {"7874371761872169979141105488279462962186", "797155877981339994"},
	}
}

// P4.2: the number is in its span.
func TestKnown(t *testing.T) {
	for text, want := range known() {
		x, _ := new(big.Rat).SetString(text)
		n, _ := new(big.Int).SetString(want[0], 10)
		for p := 1; p <= 128; p++ {
			lo := down(n, two(128-p))
			a, e := Exp(fraction(t, x), p)
			check(t, "Exp of "+text, a, e, lo, plus(lo, 1), p)
		}
		n, _ = new(big.Int).SetString(want[1], 10)
		for p := 1; p <= 64; p++ {
			lo := down(n, two(64-p))
			a, e := Minus(fraction(t, x), p)
			if e != api.OK || toBig(a.Lo).Cmp(lo) > 0 || toBig(a.Hi).Cmp(lo) <= 0 {
				t.Fatal("Minus of", text, p, a, e)
			}
		}
	}
}

// bounds are two fractions between which e to the x is, far nearer to each other than any span's ends.
func bounds(x *big.Rat) (lo, hi *big.Rat) {
	const q = 900
	n, d := x.Num(), x.Denom()
	term, sum := two(q), two(q)
	terms := int64(0)
	for k := int64(1); term.Sign() > 0; k++ {
		term = down(times(term, n), times(d, big.NewInt(k)))
		sum.Add(sum, term)
		terms++
	}
	// No term is rounded by more than e to the 64, below 2^93, and there are few.
	miss := times(two(100), big.NewInt(terms))
	return over(sum, two(q)), over(miss.Add(miss, sum), two(q))
}

// within looks whether all between two fractions is in a span.
func within(a span.Span, lo, hi *big.Rat) bool {
	one := two(a.P)
	return over(toBig(a.Lo), one).Cmp(lo) <= 0 && over(toBig(a.Hi), one).Cmp(hi) >= 0
}

// wider says whether the ends of a span that may be are more than that apart.
func wider(a span.Span, most int64) bool {
	return new(big.Int).Sub(toBig(a.Hi), toBig(a.Lo)).Cmp(big.NewInt(most)) > 0
}

// P4.2: the number is in its span, and the ends are near.
func TestNumberIsIn(t *testing.T) {
	for _, x := range samples() {
		lo, hi := bounds(x)
		if x.Sign() == 0 {
			hi = lo
		}
		r := fraction(t, x)
		for _, p := range depths {
			a, e := Exp(r, p)
			if e != api.OK || !within(a, lo, hi) || wider(a, 2) {
				t.Fatal("Exp", x, p, a, e)
			}
			if p > api.MaxPrec {
				continue
			}
			b, e := Minus(r, p)
			if e != api.OK || !within(b, new(big.Rat).Inv(hi), new(big.Rat).Inv(lo)) || wider(b, 4) {
				t.Fatal("Minus", x, p, b, e)
			}
		}
	}
}

// meet says whether two spans have a number in common.
func meet(a, b span.Span) bool { return a.Lo.Cmp(b.Hi) <= 0 && b.Lo.Cmp(a.Hi) <= 0 }

// must is a span of a call that may not go wrong.
func must(t *testing.T) func(a span.Span, e api.Errno) span.Span {
	return func(a span.Span, e api.Errno) span.Span {
		t.Helper()
		if e != api.OK {
			t.Fatal(a, e)
		}
		return a
	}
}

// P4.3: what two spans come to, multiplied, meets that of the sum.
func TestProductsMeetSums(t *testing.T) {
	r := rand.New(rand.NewPCG(4, 3))
	ok := must(t)
	for range 300 {
		d := r.Int64N(1<<20) + 1
		n, m := r.Int64N(32*d+1), r.Int64N(32*d+1)
		x, y, sum := fraction(t, big.NewRat(n, d)), fraction(t, big.NewRat(m, d)), fraction(t, big.NewRat(n+m, d))
		p := 1 + r.IntN(64)
		product := ok(ok(Exp(x, p)).Mul(ok(Exp(y, p))))
		if !meet(product, ok(Exp(sum, p))) {
			t.Fatal("Exp", x, y, p)
		}
		product = ok(ok(Minus(x, p)).Mul(ok(Minus(y, p))))
		if !meet(product, ok(Minus(sum, p))) {
			t.Fatal("Minus", x, y, p)
		}
		both := ok(ok(Exp(x, p)).Mul(ok(Minus(x, p))))
		if one, _ := rat.Of(1, 1); !both.Has(one) {
			t.Fatal("Exp and Minus", x, p)
		}
	}
}

// P4.3: e to the x rises with x, and that to the less x falls.
func TestRises(t *testing.T) {
	ok := must(t)
	for _, p := range []int{1, 20, 64, 128} {
		last := ok(Exp(rat.Rat{}, p))
		for n := int64(1); n <= 640; n++ {
			next := ok(Exp(fraction(t, big.NewRat(n, 10)), p))
			if next.Lo.Cmp(last.Lo) < 0 || next.Hi.Cmp(last.Hi) < 0 || p >= 20 && next.Lo.Cmp(last.Hi) <= 0 {
				t.Fatal("Exp", n, p, last, next)
			}
			last = next
		}
	}
	for _, p := range []int{1, 20, 64} {
		last := ok(Minus(rat.Rat{}, p))
		for n := int64(1); n <= 700; n++ {
			next := ok(Minus(fraction(t, big.NewRat(n, 10)), p))
			if next.Lo.Cmp(last.Lo) > 0 || next.Hi.Cmp(last.Hi) > 0 {
				t.Fatal("Minus", n, p, last, next)
			}
			last = next
		}
	}
}

// P4.3: e to the 0 is in a span that has 1.
func TestZeroHasOne(t *testing.T) {
	one, _ := rat.Of(1, 1)
	for p := 1; p <= 128; p++ {
		if a, e := Exp(rat.Rat{}, p); e != api.OK || !a.Has(one) {
			t.Fatal(p, a, e)
		}
		if a, e := Minus(rat.Rat{}, min(p, 64)); e != api.OK || !a.Has(one) {
			t.Fatal(p, a, e)
		}
	}
}

// What is handed in is not changed, what is handed out is new, and the same call answers the same.
func TestNothingIsShared(t *testing.T) {
	x, _ := rat.Of(5, 3)
	a, _ := Exp(x, 20)
	b, _ := Minus(x, 20)
	for _, n := range []nat.Nat{a.Lo, a.Hi, b.Lo, b.Hi, x.Num(), x.Den()} {
		n.Words()[0] = 99
	}
	for range 2 {
		hold(t, big.NewRat(5, 3), 20)
		c, e := Exp(x, 20)
		check(t, "Exp", c, e, toBig(a.Lo), toBig(a.Hi), 20)
	}
	if x.String() != "5/3" {
		t.Fatal(x)
	}
}
