package span

import (
	"math"
	"math/big"
	"math/rand/v2"
	"slices"
	"testing"

	"chaff/api"
	"chaff/nat"
	"chaff/rat"
)

// The tests reckon anew by math/big, which the program itself may not call.

func two(n int) *big.Int { return new(big.Int).Lsh(big.NewInt(1), uint(n)) }

// plus is v with a small number added.
func plus(v *big.Int, n int64) *big.Int { return new(big.Int).Add(v, big.NewInt(n)) }

func times(v, w *big.Int) *big.Int { return new(big.Int).Mul(v, w) }

// down and up are v over d, as whole numbers.
func down(v, d *big.Int) *big.Int { return new(big.Int).Div(v, d) }

func up(v, d *big.Int) *big.Int { return down(plus(new(big.Int).Add(v, d), -1), d) }

// greatest is the greatest number.
func greatest() *big.Int { return plus(two(api.MaxBits), -1) }

func fits(v *big.Int) bool { return v.BitLen() <= api.MaxBits }

func number(t testing.TB, v *big.Int) nat.Nat {
	t.Helper()
	a, e := nat.Parse(v.String())
	if e != api.OK {
		t.Fatal(v, e)
	}
	return a
}

func toBig(a nat.Nat) *big.Int {
	v := new(big.Int)
	for _, w := range slices.Backward(a.Words()) {
		v.Or(v.Lsh(v, 64), new(big.Int).SetUint64(w))
	}
	return v
}

func toRat(a rat.Rat) *big.Rat { return new(big.Rat).SetFrac(toBig(a.Num()), toBig(a.Den())) }

func fraction(t testing.TB, x *big.Rat) rat.Rat {
	t.Helper()
	a, e := rat.New(number(t, x.Num()), number(t, x.Denom()))
	if e != api.OK {
		t.Fatal(x, e)
	}
	return a
}

// values are a span's ends, over 2^P.
func values(a Span) (lo, hi *big.Rat) {
	one := two(a.P)
	return new(big.Rat).SetFrac(toBig(a.Lo), one), new(big.Rat).SetFrac(toBig(a.Hi), one)
}

func spanOf(t testing.TB, lo, hi *big.Int, p int) Span {
	t.Helper()
	return Span{number(t, lo), number(t, hi), p}
}

// small is a span of small numbers.
func small(lo, hi uint64, p int) Span { return Span{nat.Of(lo), nat.Of(hi), p} }

// check holds a span against what it should be, which may be.
func check(t *testing.T, what string, got Span, e api.Errno, lo, hi *big.Int, p int) {
	t.Helper()
	if e != api.OK || toBig(got.Lo).Cmp(lo) != 0 || toBig(got.Hi).Cmp(hi) != 0 || got.P != p || !got.May() {
		t.Fatalf("%s: %v %v, not %v %v %v", what, got, e, lo, hi, p)
	}
}

// wrong holds an answer against an error, beside which the span is zero.
func wrong(t *testing.T, what string, got Span, e, want api.Errno) {
	t.Helper()
	if e != want || got.Lo.Words() != nil || got.Hi.Words() != nil || got.P != 0 {
		t.Fatalf("%s: %v %v, not zero %v", what, got, e, want)
	}
}

// held holds an answer against ErrLimit, if one of the numbers on the way has too many bits, and else against the span.
func held(t *testing.T, what string, got Span, e api.Errno, lo, hi *big.Int, p int, way ...*big.Int) {
	t.Helper()
	for _, v := range append(way, lo, hi) {
		if !fits(v) {
			wrong(t, what, got, e, api.ErrLimit)
			return
		}
	}
	check(t, what, got, e, lo, hi, p)
}

var depths = []int{0, 1, 2, 3, 63, 64, 65, 1000, 1023, 1024}

// ends are numbers about edges, in order.
func ends() []*big.Int {
	out := []*big.Int{big.NewInt(0), big.NewInt(1), big.NewInt(2), big.NewInt(3), big.NewInt(7), plus(two(64), -1), two(64), plus(two(64), 1)}
	for _, n := range []int{1024, 2047, 2048, 4095} {
		out = append(out, plus(two(n), -1), two(n), plus(two(n), 1))
	}
	return append(out, plus(greatest(), -1), greatest())
}

// samples are spans of the P p.
func samples(t testing.TB, p int) []Span {
	t.Helper()
	all := ends()
	var out []Span
	for i, lo := range all {
		for _, k := range []int{0, 1, 5, len(all) - 1 - i} {
			if i+k < len(all) {
				out = append(out, spanOf(t, lo, all[i+k], p))
			}
		}
	}
	return out
}

// fractions are such as are about edges.
func fractions(t testing.TB) []rat.Rat {
	t.Helper()
	all := []*big.Int{big.NewInt(1), big.NewInt(2), big.NewInt(3), big.NewInt(10), plus(two(64), 1), two(1024), plus(two(2048), -1), greatest()}
	out := []rat.Rat{{}}
	for _, n := range all {
		for _, d := range all {
			out = append(out, fraction(t, new(big.Rat).SetFrac(n, d)))
		}
	}
	return out
}

// broken are spans that may not be.
func broken(t testing.TB) []Span {
	t.Helper()
	return []Span{
		small(1, 0, 0), small(6, 5, 3), small(1, 0, Deepest), small(0, 0, -1), small(1, 2, -1),
		small(1, 2, Deepest+1), small(0, 0, Deepest+1), small(1, 2, math.MinInt), small(1, 2, math.MaxInt),
		spanOf(t, greatest(), plus(greatest(), -1), 4), spanOf(t, two(64), plus(two(64), -1), 4),
	}
}

func TestExample(t *testing.T) {
	third, _ := rat.Of(1, 3)
	a, e := Exact(third, 2)
	check(t, "a third", a, e, big.NewInt(1), big.NewInt(2), 2)
	half, _ := rat.Of(1, 2)
	b, e := a.Scale(half)
	check(t, "its half", b, e, big.NewInt(0), big.NewInt(1), 2)
}

// P3.1: Exact: Lo down, Hi up.
func TestExact(t *testing.T) {
	for _, r := range fractions(t) {
		x := toRat(r)
		for _, p := range depths {
			a, e := Exact(r, p)
			n := times(x.Num(), two(p))
			if held(t, "Exact", a, e, down(n, x.Denom()), up(n, x.Denom()), p, n); e == api.OK && !a.Has(r) {
				t.Fatal("not in it:", r, a)
			}
		}
	}
	a, e := Exact(rat.Rat{}, Deepest)
	check(t, "0", a, e, new(big.Int), new(big.Int), Deepest)
}

// P3.1: Exact's errors, ErrRange ahead of ErrLimit.
func TestExactWrong(t *testing.T) {
	most := fraction(t, new(big.Rat).SetInt(greatest()))
	for _, r := range append(fractions(t), most) {
		for _, p := range []int{-1, Deepest + 1, api.MaxBits, math.MinInt, math.MaxInt} {
			a, e := Exact(r, p)
			wrong(t, "Exact", a, e, api.ErrRange)
		}
	}
	a, e := Exact(most, 0)
	check(t, "greatest", a, e, greatest(), greatest(), 0)
	a, e = Exact(most, 1)
	wrong(t, "greatest by 1", a, e, api.ErrLimit)
	// Num times 2^p has too many bits, though both ends would be small.
	near := fraction(t, new(big.Rat).SetFrac(plus(greatest(), -1), greatest()))
	a, e = Exact(near, 0)
	check(t, "near 1", a, e, big.NewInt(0), big.NewInt(1), 0)
	a, e = Exact(near, 1)
	wrong(t, "near 1 by 1", a, e, api.ErrLimit)
}

// P3.1: May.
func TestMay(t *testing.T) {
	for _, p := range depths {
		for _, a := range samples(t, p) {
			if !a.May() {
				t.Fatal(a)
			}
		}
	}
	for _, a := range append(samples(t, 0), Span{}, small(5, 5, 0), small(0, 1, Deepest)) {
		if !a.May() {
			t.Fatal(a)
		}
	}
	for _, a := range broken(t) {
		if a.May() {
			t.Fatal(a)
		}
	}
	if Deepest != 1024 {
		t.Fatal(Deepest)
	}
}

// P3.2: Add, Sub and Mul of all pairs.
func TestPairs(t *testing.T) {
	for _, p := range []int{0, 1, 64, 1023, 1024} {
		all := samples(t, p)
		one := two(p)
		for _, a := range all {
			lo, hi := toBig(a.Lo), toBig(a.Hi)
			for _, b := range all {
				low, high := toBig(b.Lo), toBig(b.Hi)
				s, e := a.Add(b)
				held(t, "Add", s, e, new(big.Int).Add(lo, low), new(big.Int).Add(hi, high), p)
				m, e := a.Mul(b)
				held(t, "Mul", m, e, down(times(lo, low), one), up(times(hi, high), one), p, times(lo, low), times(hi, high))
				d, e := a.Sub(b)
				if low.Cmp(hi) > 0 {
					wrong(t, "Sub", d, e, api.ErrSign)
					continue
				}
				least := new(big.Int).Sub(lo, high)
				if least.Sign() < 0 {
					least = new(big.Int)
				}
				check(t, "Sub", d, e, least, new(big.Int).Sub(hi, low), p)
			}
		}
	}
}

// P3.2: ends that are rounded, and such as aren't.
func TestPairsSmall(t *testing.T) {
	a, b := small(5, 6, 3), small(8, 10, 3)
	s, e := a.Add(b)
	check(t, "Add", s, e, big.NewInt(13), big.NewInt(16), 3)
	d, e := b.Sub(a)
	check(t, "Sub", d, e, big.NewInt(2), big.NewInt(5), 3)
	m, e := a.Mul(b)
	check(t, "Mul", m, e, big.NewInt(5), big.NewInt(8), 3)
	m, e = small(3, 5, 3).Mul(small(3, 5, 3))
	check(t, "Mul", m, e, big.NewInt(1), big.NewInt(4), 3)
	m, e = small(8, 8, 3).Mul(small(8, 8, 3))
	check(t, "1 * 1", m, e, big.NewInt(8), big.NewInt(8), 3)
	d, e = a.Sub(small(6, 9, 3))
	check(t, "Hi and Lo meet", d, e, big.NewInt(0), big.NewInt(0), 3)
	d, e = a.Sub(a)
	check(t, "less itself", d, e, big.NewInt(0), big.NewInt(1), 3)
	d, e = a.Sub(small(0, 5, 3))
	check(t, "Lo and Hi meet", d, e, big.NewInt(0), big.NewInt(6), 3)
	d, e = a.Sub(small(7, 7, 3))
	wrong(t, "below 0", d, e, api.ErrSign)
}

// P3.2: ErrRange ahead of ErrSign and ErrLimit.
func TestPairsWrong(t *testing.T) {
	refused := func(a, b Span) {
		t.Helper()
		s, e := a.Add(b)
		wrong(t, "Add", s, e, api.ErrRange)
		d, e := a.Sub(b)
		wrong(t, "Sub", d, e, api.ErrRange)
		m, e := a.Mul(b)
		wrong(t, "Mul", m, e, api.ErrRange)
	}
	most := spanOf(t, greatest(), greatest(), 4)
	for _, a := range broken(t) {
		for _, b := range []Span{small(1, 2, a.P), small(0, 9, 4), most, a} {
			refused(a, b)
			refused(b, a)
		}
	}
	refused(small(1, 2, 3), small(1, 2, 4))
	refused(small(1, 2, 3), small(5, 6, 2))
	refused(most, spanOf(t, greatest(), greatest(), 5))
	refused(Span{}, small(0, 0, Deepest))
}

// P3.3: a sum or a product on the way, at 4096 bits and one more.
func TestLimits(t *testing.T) {
	most := spanOf(t, new(big.Int), greatest(), 1024)
	s, e := most.Add(small(0, 0, 1024))
	check(t, "greatest + 0", s, e, new(big.Int), greatest(), 1024)
	s, e = most.Add(small(0, 1, 1024))
	wrong(t, "greatest + 1", s, e, api.ErrLimit)
	m, e := most.Mul(small(0, 1, 1024))
	check(t, "greatest * 1", m, e, new(big.Int), two(3072), 1024)
	m, e = most.Mul(small(0, 2, 1024))
	wrong(t, "the product alone is too great", m, e, api.ErrLimit)
	half, _ := rat.Of(1, 2)
	c, e := most.Scale(half)
	check(t, "half", c, e, new(big.Int), two(4095), 1024)
	thirds, _ := rat.Of(2, 3)
	c, e = most.Scale(thirds)
	wrong(t, "times Num alone is too great", c, e, api.ErrLimit)
	c, e = most.Scale(rat.Rat{})
	check(t, "greatest * 0", c, e, new(big.Int), new(big.Int), 1024)
	c, e = most.Cut(1023)
	check(t, "Cut by 1", c, e, new(big.Int), two(4095), 1023)
	c, e = most.Cut(1024)
	check(t, "Cut by 0", c, e, new(big.Int), greatest(), 1024)
}

// P3.3: Scale.
func TestScale(t *testing.T) {
	by := fractions(t)
	for _, p := range []int{0, 1, 64, 1024} {
		for _, a := range samples(t, p) {
			for _, r := range by {
				x := toRat(r)
				lo, hi := times(toBig(a.Lo), x.Num()), times(toBig(a.Hi), x.Num())
				s, e := a.Scale(r)
				held(t, "Scale", s, e, down(lo, x.Denom()), up(hi, x.Denom()), p, lo, hi)
			}
		}
	}
}

// P3.3: Invert.
func TestInvert(t *testing.T) {
	for _, p := range depths {
		for _, a := range samples(t, p) {
			v, e := a.Invert()
			if a.Lo.Zero() {
				wrong(t, "Invert", v, e, api.ErrZero)
				continue
			}
			one := two(2 * p)
			check(t, "Invert", v, e, down(one, toBig(a.Hi)), up(one, toBig(a.Lo)), p)
		}
	}
	v, e := small(5, 6, 3).Invert()
	check(t, "Invert", v, e, big.NewInt(10), big.NewInt(13), 3)
	v, e = small(1, 1, Deepest).Invert()
	check(t, "the least inverted", v, e, two(2*Deepest), two(2*Deepest), Deepest)
	v, e = small(8, 8, 3).Invert()
	check(t, "1 over 1", v, e, big.NewInt(8), big.NewInt(8), 3)
	v, e = Span{}.Invert()
	wrong(t, "1 over 0", v, e, api.ErrZero)
}

// P3.3: Cut.
func TestCut(t *testing.T) {
	for _, p := range depths {
		for _, a := range samples(t, p) {
			for _, to := range []int{0, 1, p / 2, p - 1, p} {
				c, e := a.Cut(to)
				if to < 0 || to > p {
					wrong(t, "Cut", c, e, api.ErrRange)
					continue
				}
				one := two(p - to)
				check(t, "Cut", c, e, down(toBig(a.Lo), one), up(toBig(a.Hi), one), to)
			}
			for _, to := range []int{-1, p + 1, Deepest + 1, math.MinInt, math.MaxInt} {
				c, e := a.Cut(to)
				wrong(t, "Cut", c, e, api.ErrRange)
			}
		}
	}
	c, e := small(8, 10, 3).Cut(1)
	check(t, "Cut", c, e, big.NewInt(2), big.NewInt(3), 1)
}

// P3.3, P3.4: of spans that may not be; ErrRange ahead of ErrZero and ErrLimit.
func TestBroken(t *testing.T) {
	for _, a := range broken(t) {
		for _, r := range fractions(t) {
			s, e := a.Scale(r)
			wrong(t, "Scale", s, e, api.ErrRange)
			if a.Under(r) || a.Over(r) || a.Has(r) {
				t.Fatal("a span that may not be answers of", r, a)
			}
		}
		v, e := a.Invert()
		wrong(t, "Invert", v, e, api.ErrRange)
		for _, p := range []int{0, 1, a.P, math.MaxInt, math.MinInt} {
			c, e := a.Cut(p)
			wrong(t, "Cut", c, e, api.ErrRange)
		}
	}
}

// holds looks whether the three answers are right of r.
func holds(t *testing.T, a Span, r rat.Rat) {
	t.Helper()
	x := toRat(r)
	lo, hi := values(a)
	if a.Under(r) != (hi.Cmp(x) <= 0) || a.Over(r) != (lo.Cmp(x) > 0) || a.Has(r) != (lo.Cmp(x) <= 0 && x.Cmp(hi) <= 0) {
		t.Fatalf("%v of %v: Under %v, Over %v, Has %v", r, a, a.Under(r), a.Over(r), a.Has(r))
	}
}

// P3.4: Under, Over and Has, of fractions far off, at both ends, and next to these.
func TestUnderOverHas(t *testing.T) {
	some := fractions(t)
	for _, p := range []int{0, 2, 1024} {
		for _, a := range samples(t, p) {
			for _, r := range some {
				holds(t, a, r)
			}
			for _, end := range []nat.Nat{a.Lo, a.Hi} {
				v := toBig(end)
				// Over a number that isn't of base 2, just above and just below an end.
				for _, n := range []int64{-1, 0, 1} {
					n := plus(times(v, big.NewInt(3)), n)
					x := new(big.Rat).SetFrac(n, times(two(p), big.NewInt(3)))
					if n.Sign() >= 0 && fits(x.Num()) {
						holds(t, a, fraction(t, x))
					}
				}
			}
		}
	}
	half, _ := rat.Of(1, 2)
	point, wide := small(4, 4, 3), small(3, 5, 3)
	if !point.Under(half) || point.Over(half) || !point.Has(half) || wide.Under(half) || wide.Over(half) || !wide.Has(half) {
		t.Fatal("half by 3")
	}
	if !small(5, 6, 3).Over(half) || !small(2, 3, 3).Under(half) || small(5, 6, 3).Has(half) || small(2, 3, 3).Has(half) {
		t.Fatal("half by 3")
	}
	if !(Span{}).Has(rat.Rat{}) || !(Span{}).Under(rat.Rat{}) || (Span{}).Over(rat.Rat{}) {
		t.Fatal("0 of the zero span")
	}
}

// inside is a fraction in a span: an end, or one between.
func inside(r *rand.Rand, a Span) *big.Rat {
	lo, hi := values(a)
	n := r.Int64N(8)
	x := new(big.Rat).Sub(hi, lo)
	x.Mul(x, big.NewRat(n, 7))
	return x.Add(x, lo)
}

// P3.5: what is in spans stays in what the calls make of them.
func TestStaysIn(t *testing.T) {
	r := rand.New(rand.NewPCG(3, 1))
	one := func(p int) Span {
		v := new(big.Int)
		for range r.IntN(20) {
			v = plus(times(v, big.NewInt(256)), r.Int64N(256))
		}
		return spanOf(t, v, plus(v, r.Int64N(6)*r.Int64N(100)), p)
	}
	within := func(what string, a Span, e api.Errno, x *big.Rat) {
		t.Helper()
		if e != api.OK || !a.Has(fraction(t, x)) {
			t.Fatal(what, a, e, x)
		}
	}
	for range 2000 {
		p := r.IntN(100)
		a, b := one(p), one(p)
		x, y := inside(r, a), inside(r, b)
		s, e := a.Add(b)
		within("r + s", s, e, new(big.Rat).Add(x, y))
		m, e := a.Mul(b)
		within("r s", m, e, new(big.Rat).Mul(x, y))
		c, e := a.Scale(fraction(t, y))
		within("Scale", c, e, new(big.Rat).Mul(x, y))
		c, e = a.Cut(r.IntN(p + 1))
		within("Cut", c, e, x)
		if x.Cmp(y) >= 0 {
			d, e := a.Sub(b)
			within("r less s", d, e, new(big.Rat).Sub(x, y))
		}
		if !a.Lo.Zero() {
			v, e := a.Invert()
			within("1 over r", v, e, new(big.Rat).Inv(x))
		}
	}
}

// What is handed in is not changed, and what is handed out is new.
func TestNothingIsShared(t *testing.T) {
	a, b := small(5, 6, 3), small(8, 10, 3)
	r, _ := rat.Of(5, 3)
	for range 2 {
		s, _ := a.Add(b)
		c, _ := a.Cut(3)
		for _, n := range []nat.Nat{s.Lo, s.Hi, c.Lo, c.Hi} {
			n.Words()[0] = 99
		}
		b.Sub(a)
		a.Mul(b)
		a.Scale(r)
		a.Invert()
		a.Has(r)
	}
	check(t, "a", a, api.OK, big.NewInt(5), big.NewInt(6), 3)
	check(t, "b", b, api.OK, big.NewInt(8), big.NewInt(10), 3)
	if r.String() != "5/3" {
		t.Fatal(r)
	}
}
