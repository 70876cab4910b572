package rat

import (
	"math"
	"math/big"
	"math/rand/v2"
	"slices"
	"strings"
	"testing"

	"chaff/api"
	"chaff/nat"
)

// The tests reckon anew by math/big, which the program itself may not call.

func power(n uint) *big.Int { return new(big.Int).Lsh(big.NewInt(1), n) }

// plus is v with a small number added.
func plus(v *big.Int, n int64) *big.Int { return new(big.Int).Add(v, big.NewInt(n)) }

func times(v, w *big.Int) *big.Int { return new(big.Int).Mul(v, w) }

func whole(n int64) *big.Int { return big.NewInt(n) }

// greatest is the greatest number.
func greatest() *big.Int { return plus(power(api.MaxBits), -1) }

func fits(all ...*big.Int) bool {
	return !slices.ContainsFunc(all, func(v *big.Int) bool { return v.BitLen() > api.MaxBits })
}

func number(t testing.TB, v *big.Int) nat.Nat {
	t.Helper()
	a, e := nat.Parse(v.String())
	if e != api.OK {
		t.Fatal(v, e)
	}
	return a
}

func toBig(a nat.Nat) *big.Int {
	v, _ := new(big.Int).SetString(a.String(), 10)
	return v
}

func toRat(a Rat) *big.Rat { return new(big.Rat).SetFrac(toBig(a.Num()), toBig(a.Den())) }

func fraction(t testing.TB, n, d *big.Int) Rat {
	t.Helper()
	a, e := New(number(t, n), number(t, d))
	if e != api.OK {
		t.Fatal(n, d, e)
	}
	return a
}

// check holds a fraction against what it should be, and looks whether it is in lowest terms.
func check(t *testing.T, what string, got Rat, e api.Errno, want *big.Rat) {
	t.Helper()
	// math/big keeps lowest terms.
	n, d := toBig(got.Num()), toBig(got.Den())
	if e != api.OK || n.Cmp(want.Num()) != 0 || d.Cmp(want.Denom()) != 0 {
		t.Fatalf("%s: %v %v, not %v", what, got, e, want)
	}
	if got.Zero() != (want.Sign() == 0) || got.String() != want.Num().String()+"/"+want.Denom().String() {
		t.Fatalf("%s: Zero %v, String %v, not of %v", what, got.Zero(), got, want)
	}
}

// wrong holds an answer against an error, beside which the fraction is zero.
func wrong(t *testing.T, what string, got Rat, e, want api.Errno) {
	t.Helper()
	if e != want || !got.Zero() || got.String() != "0/1" || got.Num().Words() != nil || got.less.Words() != nil {
		t.Fatalf("%s: %v %v, not 0/1 %v", what, got, e, want)
	}
}

// checkNumber holds a whole number against what it should be; beside an error, 0.
func checkNumber(t *testing.T, what string, got nat.Nat, e api.Errno, want *big.Int, fault api.Errno) {
	t.Helper()
	if e != fault || toBig(got).Cmp(want) != 0 {
		t.Fatalf("%s: %v %v, not %v %v", what, got, e, want, fault)
	}
}

func some(r *rand.Rand, most int) *big.Int {
	v := new(big.Int)
	for range r.IntN(most) + 1 {
		v.Lsh(v, 8)
		v.Or(v, whole(int64(r.IntN(256))))
	}
	return v
}

// samples are fractions about edges, and of all sizes.
func samples(t testing.TB) []Rat {
	t.Helper()
	ones := []*big.Int{whole(1), whole(2), whole(3), whole(12), power(64), power(2047), power(2048), plus(power(2048), 1), power(4095), greatest()}
	out := []Rat{{}}
	for _, n := range ones {
		for _, d := range ones {
			out = append(out, fraction(t, n, d))
		}
	}
	r := rand.New(rand.NewPCG(1, 2))
	for _, most := range []int{1, 1, 1, 2, 2, 8, 16, 64, 128, 256, 256, 512} {
		out = append(out, fraction(t, some(r, most), plus(some(r, most/2+1), 1)))
	}
	return out
}

// pairs hands over all pairs of samples, and looks whether any of both was written into.
func pairs(t *testing.T, do func(a, b Rat, x, y *big.Rat)) {
	t.Helper()
	all := samples(t)
	bigs := make([]*big.Rat, len(all))
	for i, a := range all {
		bigs[i] = toRat(a)
	}
	for i, a := range all {
		for k, b := range all {
			do(a, b, bigs[i], bigs[k])
		}
	}
	for i, a := range all {
		if toRat(a).Cmp(bigs[i]) != 0 {
			t.Fatal("a fraction was changed:", bigs[i])
		}
	}
}

func parsed(t testing.TB, s string) Rat {
	t.Helper()
	a, e := Parse(s)
	if e != api.OK {
		t.Fatal(s, e)
	}
	return a
}

func TestExample(t *testing.T) {
	if a, e := Of(6, 4); e != api.OK || a.String() != "3/2" {
		t.Fatal(a, e)
	}
	half, _ := Of(1, 2)
	third, _ := Of(1, 3)
	s, e := half.Add(third)
	if e != api.OK || s.String() != "5/6" {
		t.Fatal(s, e)
	}
	down, e := s.Floor(1)
	checkNumber(t, "Floor", down, e, whole(1), api.OK)
	up, e := s.Ceil(1)
	checkNumber(t, "Ceil", up, e, whole(2), api.OK)
}

// P2.1: New, Num, Den, Zero, in lowest terms.
func TestNew(t *testing.T) {
	ones := []*big.Int{whole(0), whole(1), whole(2), whole(6), power(64), times(whole(6), power(100)), power(4095), plus(greatest(), -1), greatest()}
	for _, n := range ones {
		for _, d := range ones {
			a, e := New(number(t, n), number(t, d))
			if d.Sign() == 0 {
				wrong(t, "New", a, e, api.ErrZero)
				continue
			}
			check(t, "New", a, e, new(big.Rat).SetFrac(n, d))
		}
	}
}

// P2.1: Of.
func TestOf(t *testing.T) {
	ones := []uint64{0, 1, 2, 3, 4, 6, 12, 1 << 63, math.MaxUint64 - 1, math.MaxUint64}
	for _, n := range ones {
		for _, d := range ones {
			a, e := Of(n, d)
			if d == 0 {
				wrong(t, "Of", a, e, api.ErrZero)
				continue
			}
			check(t, "Of", a, e, new(big.Rat).SetFrac(new(big.Int).SetUint64(n), new(big.Int).SetUint64(d)))
		}
	}
}

// P2.1: the zero Rat is 0, and 0 is 0 over 1, whatever was below.
func TestZeroRat(t *testing.T) {
	var zero Rat
	check(t, "the zero Rat", zero, api.OK, new(big.Rat))
	for _, d := range []*big.Int{whole(1), whole(7), power(4095), greatest()} {
		a := fraction(t, whole(0), d)
		check(t, "0 over d", a, api.OK, new(big.Rat))
		if a.Cmp(zero) != 0 || zero.Cmp(a) != 0 {
			t.Fatal("0 isn't 0")
		}
	}
	half, _ := Of(1, 2)
	s, e := zero.Add(half)
	check(t, "0 + 1/2", s, e, big.NewRat(1, 2))
	d, e := half.Sub(half)
	check(t, "1/2 - 1/2", d, e, new(big.Rat))
	p, e := half.Mul(zero)
	check(t, "1/2 * 0", p, e, new(big.Rat))
	q, e := zero.Div(half)
	check(t, "0 over 1/2", q, e, new(big.Rat))
	q, e = zero.Div(zero)
	wrong(t, "0 over 0", q, e, api.ErrZero)
}

// What is handed in is not changed, nor what was handed out kept.
func TestNothingIsShared(t *testing.T) {
	n, d := nat.Of(6), nat.Of(4)
	a, _ := New(n, d)
	a.Num().Words()[0] = 99
	a.Den().Words()[0] = 99
	if n.String() != "6" || d.String() != "4" || a.String() != "3/2" {
		t.Fatal(n, d, a)
	}
}

// P2.1: Cmp, whatever the products' bits.
func TestCmp(t *testing.T) {
	pairs(t, func(a, b Rat, x, y *big.Rat) {
		if a.Cmp(b) != x.Cmp(y) {
			t.Fatal(x, y, a.Cmp(b))
		}
	})
	r := rand.New(rand.NewPCG(3, 4))
	for range 20000 {
		x := big.NewRat(r.Int64N(9), 1+r.Int64N(9))
		y := big.NewRat(r.Int64N(9), 1+r.Int64N(9))
		a, b := fraction(t, x.Num(), x.Denom()), fraction(t, y.Num(), y.Denom())
		if a.Cmp(b) != x.Cmp(y) {
			t.Fatal(x, y, a.Cmp(b))
		}
	}
}

// P2.1: Cmp of the fractions that take the most turns, and of such as are unlike only in the last one.
func TestCmpNear(t *testing.T) {
	before, last := whole(1), whole(1)
	var steps []*big.Rat
	for {
		next := new(big.Int).Add(before, last)
		if !fits(next) {
			break
		}
		before, last = last, next
		steps = append(steps, new(big.Rat).SetFrac(last, before))
	}
	steps = steps[len(steps)-6:]
	for _, x := range steps {
		for _, y := range steps {
			a, b := fraction(t, x.Num(), x.Denom()), fraction(t, y.Num(), y.Denom())
			if a.Cmp(b) != x.Cmp(y) {
				t.Fatal(x, y, a.Cmp(b))
			}
		}
	}
	a := fraction(t, plus(greatest(), -1), greatest())
	b := fraction(t, plus(greatest(), -2), plus(greatest(), -1))
	if a.Cmp(b) != 1 || b.Cmp(a) != -1 || a.Cmp(a) != 0 {
		t.Fatal("1 less 1/m is above 1 less 1/(m-1)")
	}
}

// P2.1, P2.4: String and Parse.
func TestText(t *testing.T) {
	for _, a := range samples(t) {
		b, e := Parse(a.String())
		check(t, "Parse of String", b, e, toRat(a))
		if a.Cmp(b) != 0 {
			t.Fatal(a, b)
		}
	}
	for s, want := range map[string]string{"10/4": "5/2", "0/1": "0/1", "0/7": "0/1", "7/7": "1/1", "5/1": "5/1", "1/5": "1/5"} {
		if a, e := Parse(s); e != api.OK || a.String() != want {
			t.Fatal(s, a, e)
		}
	}
	most := greatest().String()
	a, e := Parse(most + "/1")
	check(t, "greatest over 1", a, e, new(big.Rat).SetInt(greatest()))
	a, e = Parse("1/" + most)
	check(t, "1 over greatest", a, e, new(big.Rat).SetFrac(whole(1), greatest()))
	a, e = Parse(most + "/" + most)
	check(t, "greatest over greatest", a, e, big.NewRat(1, 1))
}

// P2.1: Parse's errors, the first one first.
func TestParseWrong(t *testing.T) {
	high := power(api.MaxBits).String()
	for s, want := range map[string]api.Errno{
		"": api.ErrForm, "/": api.ErrForm, "1": api.ErrForm, "1/": api.ErrForm, "/1": api.ErrForm,
		"1//2": api.ErrForm, "1/2/": api.ErrForm, "/1/2": api.ErrForm, "1/2/3": api.ErrForm, "//": api.ErrForm,
		"01/2": api.ErrForm, "1/02": api.ErrForm, "1/00": api.ErrForm, " 1/2": api.ErrForm, "1/2 ": api.ErrForm,
		"1 / 2": api.ErrForm, "-1/2": api.ErrForm, "1/+2": api.ErrForm, "1/2\n": api.ErrForm, "a/2": api.ErrForm,
		"1\\2": api.ErrForm, "1\u22152": api.ErrForm, "0.5/1": api.ErrForm,
		"1/0": api.ErrZero, "0/0": api.ErrZero, "x/0": api.ErrForm,
		high: api.ErrForm, high + "/": api.ErrLimit, high + "/x": api.ErrLimit, high + "/0": api.ErrLimit, high + "/" + high: api.ErrLimit,
		"1/" + high: api.ErrLimit, "x/" + high: api.ErrForm, "0/" + high: api.ErrLimit,
		high + "/1/1":                   api.ErrForm,
		strings.Repeat("/", 5000):       api.ErrForm,
		strings.Repeat("9", 5000) + "/": api.ErrLimit,
	} {
		a, e := Parse(s)
		wrong(t, "Parse "+s, a, e, want)
	}
}

// P2.2: all four, with their errors, of all pairs.
func TestReckon(t *testing.T) {
	pairs(t, func(a, b Rat, x, y *big.Rat) {
		ad, cb := times(x.Num(), y.Denom()), times(y.Num(), x.Denom())
		ac, bd := times(x.Num(), y.Num()), times(x.Denom(), y.Denom())
		held := func(what string, got Rat, e api.Errno, ok bool, want func() *big.Rat) {
			t.Helper()
			if !ok {
				wrong(t, what, got, e, api.ErrLimit)
				return
			}
			check(t, what, got, e, want())
		}
		s, e := a.Add(b)
		held("Add", s, e, fits(ad, cb, bd, new(big.Int).Add(ad, cb)), func() *big.Rat { return new(big.Rat).Add(x, y) })
		p, e := a.Mul(b)
		held("Mul", p, e, fits(ac, bd), func() *big.Rat { return new(big.Rat).Mul(x, y) })
		q, e := a.Div(b)
		if y.Sign() == 0 {
			wrong(t, "Div", q, e, api.ErrZero)
		} else {
			held("Div", q, e, fits(ad, cb), func() *big.Rat { return new(big.Rat).Quo(x, y) })
		}
		d, e := a.Sub(b)
		if x.Cmp(y) < 0 {
			wrong(t, "Sub", d, e, api.ErrSign)
			return
		}
		held("Sub", d, e, fits(ad, cb, bd), func() *big.Rat { return new(big.Rat).Sub(x, y) })
	})
}

// P2.2: each number by which an answer is too great, alone, though the answer in lowest terms would fit.
func TestTooGreat(t *testing.T) {
	top := power(4095)
	three, third, half := fraction(t, whole(3), whole(1)), fraction(t, whole(1), whole(3)), fraction(t, whole(1), whole(2))
	odd := fraction(t, plus(top, 1), whole(2)) // times 2 it has 4097 bits
	low := fraction(t, whole(1), power(2048))  // below, times itself, it has 4097 bits
	up, down := fraction(t, top, whole(3)), fraction(t, whole(3), top)
	limit := func(what string, got Rat, e api.Errno) {
		t.Helper()
		wrong(t, what, got, e, api.ErrLimit)
	}
	a, e := odd.Add(half)
	limit("Add by ad", a, e)
	a, e = half.Add(odd)
	limit("Add by cb", a, e)
	a, e = fraction(t, plus(top, -1), whole(2)).Add(half)
	limit("Add by the sum", a, e)
	a, e = fraction(t, plus(top, -3), whole(2)).Add(half)
	check(t, "Add", a, e, new(big.Rat).SetFrac(plus(top, -2), whole(2)))
	a, e = low.Add(low)
	limit("Add by bd", a, e)
	a, e = odd.Sub(half)
	limit("Sub by ad", a, e)
	a, e = odd.Sub(odd)
	limit("Sub by ad and cb", a, e)
	a, e = low.Sub(low)
	limit("Sub by bd", a, e)
	a, e = up.Mul(three)
	limit("Mul by ac", a, e)
	a, e = down.Mul(third)
	limit("Mul by bd", a, e)
	a, e = up.Div(third)
	limit("Div by ad", a, e)
	a, e = down.Div(three)
	limit("Div by bc", a, e)
}

// P2.2: 4096 bits are allowed, one more is not.
func TestLimits(t *testing.T) {
	one := fraction(t, whole(1), whole(1))
	most := fraction(t, greatest(), whole(1))
	least := fraction(t, whole(1), greatest())
	a, e := most.Add(Rat{})
	check(t, "greatest + 0", a, e, toRat(most))
	a, e = most.Add(one)
	wrong(t, "greatest + 1", a, e, api.ErrLimit)
	a, e = fraction(t, plus(greatest(), -1), whole(1)).Add(one)
	check(t, "greatest - 1 + 1", a, e, toRat(most))
	a, e = most.Sub(one)
	check(t, "greatest - 1", a, e, new(big.Rat).SetInt(plus(greatest(), -1)))
	a, e = most.Sub(most)
	check(t, "greatest - greatest", a, e, new(big.Rat))
	a, e = least.Mul(one)
	check(t, "least * 1", a, e, toRat(least))
	a, e = least.Mul(most)
	check(t, "least * greatest", a, e, big.NewRat(1, 1))
	a, e = one.Div(most)
	check(t, "1 over greatest", a, e, toRat(least))
	a, e = most.Div(least)
	wrong(t, "greatest over least", a, e, api.ErrLimit)
	a, e = least.Mul(least)
	wrong(t, "least * least", a, e, api.ErrLimit)
	a, e = least.Mul(Rat{})
	check(t, "least * 0", a, e, new(big.Rat))
}

// P2.2: ErrSign and ErrZero are ahead of ErrLimit.
func TestFirstErrors(t *testing.T) {
	most := fraction(t, greatest(), whole(1))
	near := fraction(t, plus(greatest(), -1), greatest())
	nearer := fraction(t, plus(greatest(), -2), plus(greatest(), -1))
	a, e := nearer.Sub(near)
	wrong(t, "Sub", a, e, api.ErrSign)
	a, e = near.Sub(nearer)
	wrong(t, "Sub", a, e, api.ErrLimit)
	a, e = near.Sub(most)
	wrong(t, "Sub", a, e, api.ErrSign)
	a, e = Rat{}.Sub(near)
	wrong(t, "Sub", a, e, api.ErrSign)
	for _, x := range []Rat{most, near, {}} {
		a, e = x.Div(Rat{})
		wrong(t, "Div", a, e, api.ErrZero)
	}
}

// P2.3, P2.4: Floor and Ceil.
func TestFloorCeil(t *testing.T) {
	for _, a := range samples(t) {
		x := toRat(a)
		for _, p := range []int{0, 1, 2, 63, 64, 65, 2047, 2048, 4094, 4095, 4096} {
			down, e := a.Floor(p)
			up, f := a.Ceil(p)
			n := times(x.Num(), power(uint(p)))
			if !fits(n) {
				checkNumber(t, "Floor", down, e, whole(0), api.ErrLimit)
				checkNumber(t, "Ceil", up, f, whole(0), api.ErrLimit)
				continue
			}
			q, left := new(big.Int).QuoRem(n, x.Denom(), new(big.Int))
			checkNumber(t, "Floor", down, e, q, api.OK)
			if left.Sign() != 0 {
				q = plus(q, 1)
			}
			checkNumber(t, "Ceil", up, f, q, api.OK)
			gap := new(big.Int).Sub(toBig(up), toBig(down))
			if gap.Sign() < 0 || gap.Cmp(whole(1)) > 0 {
				t.Fatal("Ceil is beyond Floor by", gap)
			}
		}
	}
}

// P2.3: p below 0 and above 4096, ahead of ErrLimit; p at both ends.
func TestFloorCeilWrong(t *testing.T) {
	for _, a := range samples(t) {
		for _, p := range []int{-1, 4097, math.MinInt, math.MaxInt} {
			down, e := a.Floor(p)
			checkNumber(t, "Floor", down, e, whole(0), api.ErrRange)
			up, e := a.Ceil(p)
			checkNumber(t, "Ceil", up, e, whole(0), api.ErrRange)
		}
	}
	third, least, most := parsed(t, "1/3"), fraction(t, whole(1), greatest()), fraction(t, greatest(), whole(2))
	for _, c := range []struct {
		a        Rat
		p        int
		down, up *big.Int
	}{
		{third, 0, whole(0), whole(1)},
		{third, 2, whole(1), whole(2)},
		{Rat{}, 0, whole(0), whole(0)},
		{Rat{}, 4096, whole(0), whole(0)},
		{least, 4095, whole(0), whole(1)},
		{most, 0, plus(power(4095), -1), power(4095)},
	} {
		down, e := c.a.Floor(c.p)
		checkNumber(t, "Floor", down, e, c.down, api.OK)
		up, e := c.a.Ceil(c.p)
		checkNumber(t, "Ceil", up, e, c.up, api.OK)
	}
	// Num times 2^p has too many bits, though the answer would be 1 or 2.
	down, e := least.Floor(4096)
	checkNumber(t, "Floor", down, e, whole(0), api.ErrLimit)
	up, e := least.Ceil(4096)
	checkNumber(t, "Ceil", up, e, whole(0), api.ErrLimit)
	down, e = most.Floor(1)
	checkNumber(t, "Floor", down, e, whole(0), api.ErrLimit)
}

// P2.4: sums and products keep their laws.
func TestLaws(t *testing.T) {
	r := rand.New(rand.NewPCG(5, 6))
	one := func() Rat { return fraction(t, some(r, 30), plus(some(r, 30), 1)) }
	must := func(a Rat, e api.Errno) Rat {
		t.Helper()
		if e != api.OK {
			t.Fatal(a, e)
		}
		return a
	}
	same := func(what string, a, b Rat) {
		t.Helper()
		if a.Cmp(b) != 0 || a.String() != b.String() {
			t.Fatal(what, a, b)
		}
	}
	for range 500 {
		a, b, c := one(), one(), one()
		sum, product := must(a.Add(b)), must(a.Mul(b))
		same("a + b", sum, must(b.Add(a)))
		same("a + b + c", must(sum.Add(c)), must(a.Add(must(b.Add(c)))))
		same("ab", product, must(b.Mul(a)))
		same("abc", must(product.Mul(c)), must(a.Mul(must(b.Mul(c)))))
		same("a(b + c)", must(a.Mul(must(b.Add(c)))), must(product.Add(must(a.Mul(c)))))
		same("a + b - b", must(sum.Sub(b)), a)
		if !b.Zero() {
			same("ab over b", must(product.Div(b)), a)
		}
	}
}
