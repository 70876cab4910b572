package root

import (
	"math"
	"math/big"
	"math/rand/v2"
	"slices"
	"testing"

	"chaff/api"
	"chaff/nat"
	"chaff/rat"
	"chaff/span"
)

// The tests reckon anew by math/big, which the program itself may not call.

func two(n int) *big.Int { return new(big.Int).Lsh(big.NewInt(1), uint(n)) }

// plus is v with a small number added.
func plus(v *big.Int, n int64) *big.Int { return new(big.Int).Add(v, big.NewInt(n)) }

func square(v *big.Int) *big.Int { return new(big.Int).Mul(v, v) }

// greatest is the greatest number.
func greatest() *big.Int { return plus(two(api.MaxBits), -1) }

func number(t testing.TB, v *big.Int) nat.Nat {
	t.Helper()
	a, e := nat.Parse(v.String())
	if e != api.OK {
		t.Fatal(v, e)
	}
	return a
}

func toBig(a nat.Nat) *big.Int {
	v := new(big.Int)
	for _, w := range slices.Backward(a.Words()) {
		v.Or(v.Lsh(v, 64), new(big.Int).SetUint64(w))
	}
	return v
}

// upRoot is the least number whose square isn't below v.
func upRoot(v *big.Int) *big.Int {
	r := new(big.Int).Sqrt(v)
	if square(r).Cmp(v) < 0 {
		return plus(r, 1)
	}
	return r
}

// hold holds both roots of v against what they are told to be.
func hold(t *testing.T, v *big.Int) {
	t.Helper()
	n := number(t, v)
	r, s := toBig(Down(n)), toBig(Up(n))
	switch {
	case square(r).Cmp(v) > 0 || square(plus(r, 1)).Cmp(v) <= 0:
		t.Fatal("Down of", v, r)
	case square(s).Cmp(v) < 0 || s.Sign() > 0 && square(plus(s, -1)).Cmp(v) >= 0:
		t.Fatal("Up of", v, s)
	case r.Cmp(new(big.Int).Sqrt(v)) != 0 || s.Cmp(upRoot(v)) != 0:
		t.Fatal("roots of", v, r, s)
	}
}

func TestExample(t *testing.T) {
	ten, nine := nat.Of(10), nat.Of(9)
	got := Down(ten).String() + Up(ten).String() + Down(nine).String() + Up(nine).String()
	if got != "3433" {
		t.Fatal(got)
	}
}

// P6.1: of small numbers.
func TestSmall(t *testing.T) {
	for n := range int64(5000) {
		hold(t, big.NewInt(n))
	}
	if Down(nat.Nat{}).Words() != nil || Up(nat.Nat{}).Words() != nil {
		t.Fatal("of 0")
	}
}

// P6.1: about squares and powers of 2, up to the greatest number.
func TestEdges(t *testing.T) {
	held := func(v *big.Int) {
		t.Helper()
		for by := int64(-2); by <= 2; by++ {
			if n := plus(v, by); n.BitLen() <= api.MaxBits && n.Sign() >= 0 {
				hold(t, n)
			}
		}
	}
	for _, n := range []int{1, 2, 3, 31, 32, 33, 63, 64, 65, 127, 128, 129, 500, 1023, 1024, 2046, 2047, 2048} {
		for by := int64(-2); by <= 2; by++ {
			held(square(plus(two(n), by)))
			held(square(plus(two(n-1), 7*by)))
		}
		held(two(2*n - 1))
		held(two(2*n - 2))
	}
	held(greatest())
	// The greatest square, and behind it numbers whose root, up, has one bit more than that, down.
	top := plus(two(api.MaxBits/2), -1)
	held(square(top))
	if n := number(t, greatest()); toBig(Down(n)).Cmp(top) != 0 || toBig(Up(n)).Cmp(two(api.MaxBits/2)) != 0 {
		t.Fatal("greatest", Down(n), Up(n))
	}
}

// P6.1: of any numbers, and of squares.
func TestAny(t *testing.T) {
	r := rand.New(rand.NewPCG(6, 1))
	for range 2000 {
		v := big.NewInt(1)
		for range r.IntN(64) {
			v.Add(v.Lsh(v, 64), new(big.Int).SetUint64(r.Uint64()))
		}
		v.Rsh(v, uint(r.IntN(70)))
		hold(t, v)
		half := new(big.Int).Sqrt(v)
		hold(t, square(half))
		if half.Sign() > 0 {
			hold(t, plus(square(half), -1))
		}
	}
}

func spanOf(t testing.TB, lo, hi *big.Int, p int) span.Span {
	t.Helper()
	return span.Span{Lo: number(t, lo), Hi: number(t, hi), P: p}
}

// small is a span of small numbers.
func small(lo, hi uint64, p int) span.Span {
	return span.Span{Lo: nat.Of(lo), Hi: nat.Of(hi), P: p}
}

// wrong holds an answer against an error, beside which the span is zero.
func wrong(t *testing.T, a span.Span, want api.Errno) {
	t.Helper()
	got, e := Root(a)
	if e != want || got.Lo.Words() != nil || got.Hi.Words() != nil || got.P != 0 {
		t.Fatalf("Root of %v: %v %v, not zero %v", a, got, e, want)
	}
}

// check holds the root of a span that may be.
func check(t *testing.T, a span.Span) {
	t.Helper()
	lo, hi := new(big.Int).Lsh(toBig(a.Lo), uint(a.P)), new(big.Int).Lsh(toBig(a.Hi), uint(a.P))
	if hi.BitLen() > api.MaxBits {
		wrong(t, a, api.ErrLimit)
		return
	}
	got, e := Root(a)
	if e != api.OK || toBig(got.Lo).Cmp(lo.Sqrt(lo)) != 0 || toBig(got.Hi).Cmp(upRoot(hi)) != 0 || got.P != a.P || !got.May() {
		t.Fatal("Root of", a, got, e)
	}
}

var depths = []int{0, 1, 2, 3, 63, 64, 65, 1000, 1023, 1024}

// P6.2: of spans about edges.
func TestRoot(t *testing.T) {
	ends := []*big.Int{new(big.Int), big.NewInt(1), big.NewInt(2), big.NewInt(3), big.NewInt(4), big.NewInt(8), big.NewInt(9), plus(two(64), -1), two(64), plus(two(64), 1)}
	for _, n := range []int{1024, 2048, 3071, 3072, 3073, 4094, 4095} {
		ends = append(ends, plus(two(n), -1), two(n), plus(two(n), 1))
	}
	ends = append(ends, greatest())
	for _, p := range depths {
		for i, lo := range ends {
			for _, hi := range ends[i:] {
				check(t, spanOf(t, lo, hi, p))
			}
		}
	}
	check(t, span.Span{})
	check(t, span.Span{P: span.Deepest})
}

// P6.2: Lo, or Hi, times 2^P at 4096 bits, and one more.
func TestLimits(t *testing.T) {
	for _, p := range depths {
		most := plus(two(api.MaxBits-p), -1)
		if _, e := Root(spanOf(t, most, most, p)); e != api.OK {
			t.Fatal(p, e)
		}
		if p > 0 {
			more := plus(most, 1)
			wrong(t, spanOf(t, new(big.Int), more, p), api.ErrLimit)
			wrong(t, spanOf(t, most, more, p), api.ErrLimit)
			wrong(t, spanOf(t, more, more, p), api.ErrLimit)
		}
	}
}

// P6.2: spans that may not be: ErrRange, ahead of ErrLimit.
func TestWrong(t *testing.T) {
	most := greatest()
	for _, a := range []span.Span{
		small(1, 0, 0), small(6, 5, 3), small(1, 0, span.Deepest), small(0, 0, -1), small(4, 9, -1), small(4, 9, span.Deepest+1),
		small(0, 0, span.Deepest+1), small(4, 9, math.MinInt), small(4, 9, math.MaxInt), spanOf(t, most, most, -1),
		spanOf(t, most, most, span.Deepest+1), spanOf(t, most, plus(most, -1), 4), spanOf(t, most, new(big.Int), 1),
	} {
		wrong(t, a, api.ErrRange)
	}
}

// within says whether all of a span is in another one of its P.
func within(a, b span.Span) bool { return b.Lo.Cmp(a.Lo) <= 0 && a.Hi.Cmp(b.Hi) <= 0 }

// P6.3: the root of what is in a span is in the root's span, and the root's span, times itself, has what was in it.
func TestRootIsIn(t *testing.T) {
	r := rand.New(rand.NewPCG(6, 3))
	for range 2000 {
		p := r.IntN(200)
		d := r.Uint64N(1<<20) + 1
		x, _ := rat.Of(r.Uint64N(1<<30), d)
		whole, _ := x.Mul(x)
		a, e := span.Exact(whole, p)
		if e != api.OK {
			t.Fatal(whole, p, e)
		}
		// Wider ones, too: what is known of the square is seldom the least.
		a.Hi, _ = a.Hi.Add(nat.Of(r.Uint64N(3) * r.Uint64N(100)))
		b, e := Root(a)
		if e != api.OK || !b.Has(x) {
			t.Fatal(a, b, e, x)
		}
		again, e := b.Mul(b)
		if e != api.OK || !within(a, again) || !again.Has(whole) {
			t.Fatal(a, b, again, e)
		}
	}
}

// What is handed in is not changed, what is handed out is new, and the same call answers the same.
func TestNothingIsShared(t *testing.T) {
	a := small(8, 9, 2)
	n := nat.Of(1)
	for range 2 {
		b, _ := Root(a)
		if b.Lo.String() != "5" || b.Hi.String() != "6" || b.P != 2 || Down(n).String() != "1" || Up(n).String() != "1" {
			t.Fatal(b, Down(n), Up(n))
		}
		for _, m := range []nat.Nat{b.Lo, b.Hi, Down(n), Up(n)} {
			m.Words()[0] = 99
		}
	}
	if a.Lo.String() != "8" || a.Hi.String() != "9" || a.P != 2 || n.String() != "1" {
		t.Fatal(a, n)
	}
}
