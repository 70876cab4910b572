package nat

import (
	"math"
	"math/big"
	"math/rand/v2"
	"slices"
	"strings"
	"testing"

	"chaff/api"
)

// The tests reckon anew by math/big, which the program itself may not call.

// toBig is a number as the test reckons with it.
func toBig(a Nat) *big.Int {
	v := new(big.Int)
	for _, w := range slices.Backward(a.Words()) {
		v.Lsh(v, 64)
		v.Or(v, new(big.Int).SetUint64(w))
	}
	return v
}

// toWords are the words that a number should have.
func toWords(v *big.Int) []uint64 {
	var out []uint64
	low := new(big.Int).SetUint64(math.MaxUint64)
	for v = new(big.Int).Set(v); v.Sign() != 0; v.Rsh(v, 64) {
		out = append(out, new(big.Int).And(v, low).Uint64())
	}
	return out
}

func power(n uint) *big.Int { return new(big.Int).Lsh(big.NewInt(1), n) }

// plus is v with a small number added.
func plus(v *big.Int, n int64) *big.Int { return new(big.Int).Add(v, big.NewInt(n)) }

func fromBig(t testing.TB, v *big.Int) Nat {
	t.Helper()
	a, e := From(toWords(v))
	if e != api.OK {
		t.Fatal(v, e)
	}
	return a
}

// check holds an answer against what it should be: ErrLimit and 0, if that has too many bits.
func check(t *testing.T, what string, got Nat, e api.Errno, want *big.Int) {
	t.Helper()
	fault := api.OK
	if want.BitLen() > api.MaxBits {
		want, fault = new(big.Int), api.ErrLimit
	}
	if e != fault || !slices.Equal(got.Words(), toWords(want)) {
		t.Fatalf("%s: %v %v, not %v %v", what, got, e, want, fault)
	}
}

// wrong holds an answer against an error, beside which all else is 0.
func wrong(t *testing.T, what string, got Nat, e, want api.Errno) {
	t.Helper()
	if e != want || !got.Zero() || len(got.Words()) != 0 {
		t.Fatalf("%s: %v %v, not 0 %v", what, got, e, want)
	}
}

// edges are numbers about which words and limits end.
func edges() []*big.Int {
	out := []*big.Int{big.NewInt(0), big.NewInt(1), big.NewInt(2), big.NewInt(3), big.NewInt(10)}
	for _, n := range []uint{63, 64, 127, 128, 2047, 2048, 4032, 4095} {
		out = append(out, plus(power(n), -1), power(n), plus(power(n), 1))
	}
	ten := new(big.Int).SetUint64(tens)
	out = append(out, plus(ten, -1), ten, plus(ten, 1), new(big.Int).Mul(ten, ten))
	return append(out, plus(power(4096), -1), plus(power(4096), -2))
}

// words are so many, of which many are such as carry, borrow, or are guessed wrong.
func words(r *rand.Rand, n int) []uint64 {
	some := []uint64{0, 0, 1, 1 << 63, 1<<63 - 1, math.MaxUint64, math.MaxUint64, math.MaxUint64 - 1}
	out := make([]uint64, n)
	for i := range out {
		out[i] = r.Uint64()
		if k := r.IntN(2 * len(some)); k < len(some) {
			out[i] = some[k]
		}
	}
	return out
}

// samples are the edges, and numbers of all lengths.
func samples(t testing.TB, seed uint64) []Nat {
	t.Helper()
	r := rand.New(rand.NewPCG(seed, 1))
	var out []Nat
	for _, v := range edges() {
		out = append(out, fromBig(t, v))
	}
	for _, n := range []int{1, 1, 2, 2, 2, 3, 3, 4, 5, 8, 31, 32, 33, 63, 64, 64} {
		a, e := From(words(r, n))
		if e != api.OK {
			t.Fatal(e)
		}
		out = append(out, a)
	}
	return out
}

// pairs hands over all pairs of samples, and looks whether any of both was written into.
func pairs(t *testing.T, do func(a, b Nat, x, y *big.Int)) {
	t.Helper()
	all := samples(t, 7)
	for _, a := range all {
		for _, b := range all {
			v, w := a.Words(), b.Words()
			do(a, b, toBig(a), toBig(b))
			if !slices.Equal(v, a.Words()) || !slices.Equal(w, b.Words()) {
				t.Fatal("a number was changed:", v, w)
			}
		}
	}
}

func TestExample(t *testing.T) {
	a, e := Of(1).Shl(64)
	if e != api.OK || !slices.Equal(a.Words(), []uint64{0, 1}) || a.Bits() != 65 || a.String() != "18446744073709551616" {
		t.Fatal(a.Words(), a.Bits(), a.String(), e)
	}
}

// P1.1: Of.
func TestOf(t *testing.T) {
	for _, n := range []uint64{0, 1, 9, 10, tens - 1, tens, 1 << 63, math.MaxUint64} {
		check(t, "Of", Of(n), api.OK, new(big.Int).SetUint64(n))
	}
}

// P1.1: the zero Nat is 0.
func TestZeroNat(t *testing.T) {
	var a Nat
	five := Of(5)
	if !a.Zero() || a.Bits() != 0 || a.String() != "0" || a.Words() != nil || a.Cmp(Of(0)) != 0 || five.Zero() {
		t.Fatal(a)
	}
	s, e := a.Add(five)
	check(t, "0 + 5", s, e, big.NewInt(5))
	p, e := five.Mul(a)
	check(t, "5 * 0", p, e, big.NewInt(0))
	check(t, "gcd", a.Gcd(a), api.OK, big.NewInt(0))
}

// P1.1: From, with noughts behind.
func TestFrom(t *testing.T) {
	for _, v := range edges() {
		for _, noughts := range []int{0, 1, 2, 64, 1000} {
			a, e := From(append(toWords(v), make([]uint64, noughts)...))
			check(t, "From", a, e, v)
			if last := a.Words(); len(last) > 0 && last[len(last)-1] == 0 {
				t.Fatal("a nought is left behind", v)
			}
		}
	}
	for _, none := range [][]uint64{nil, {}, {0}, make([]uint64, 65), make([]uint64, 5000)} {
		a, e := From(none)
		check(t, "From", a, e, big.NewInt(0))
	}
}

// P1.1: From of 65 words of which the last one isn't 0.
func TestFromLimit(t *testing.T) {
	full := slices.Repeat([]uint64{math.MaxUint64}, 64)
	a, e := From(full)
	if check(t, "64 words", a, e, plus(power(4096), -1)); a.Bits() != 4096 {
		t.Fatal(a.Bits())
	}
	a, e = From(append(make([]uint64, 64), 1))
	wrong(t, "2^4096", a, e, api.ErrLimit)
	a, e = From(append(full, 1, 0, 0))
	wrong(t, "65 words and noughts", a, e, api.ErrLimit)
	a, e = From(append(make([]uint64, 5000), 1))
	wrong(t, "5001 words", a, e, api.ErrLimit)
}

// What is handed in is not changed and not kept, nor is the room behind it; what is handed out is new.
func TestWordsAreCopies(t *testing.T) {
	room := []uint64{1, 2, 3, 4, 5, 6}
	in := room[:3]
	a, _ := From(in)
	for range 2 {
		a.Add(a)
		a.Mul(a)
		a.Sub(Of(9))
		a.Div(Of(9))
		a.Shl(1)
		a.Shr(1)
		a.Gcd(Of(6))
		_ = a.String()
	}
	if !slices.Equal(room, []uint64{1, 2, 3, 4, 5, 6}) {
		t.Fatal("what was handed in is changed:", room)
	}
	in[0] = 99
	out := a.Words()
	out[1] = 99
	if !slices.Equal(a.Words(), []uint64{1, 2, 3}) {
		t.Fatal("what was handed in or out is kept:", a.Words())
	}
}

// P1.1: Parse, String.
func TestText(t *testing.T) {
	for _, a := range samples(t, 3) {
		want := toBig(a).String()
		if a.String() != want {
			t.Fatal(a.String(), want)
		}
		b, e := Parse(want)
		check(t, "Parse", b, e, toBig(a))
	}
	for n := range 1234 {
		// Groups of digits that are all noughts, and all nines.
		tenth, e := Parse("1" + strings.Repeat("0", n))
		ten := new(big.Int).Exp(big.NewInt(10), big.NewInt(int64(n)), nil)
		if check(t, "10^n", tenth, e, ten); tenth.String() != ten.String() {
			t.Fatal(tenth.String(), ten)
		}
		if n == 0 {
			continue
		}
		nines, e := Parse(strings.Repeat("9", n))
		if check(t, "10^n - 1", nines, e, plus(ten, -1)); nines.String() != plus(ten, -1).String() {
			t.Fatal(nines.String(), n)
		}
	}
}

// P1.1: ErrForm, ahead of ErrLimit.
func TestParseForm(t *testing.T) {
	long := strings.Repeat("7", 5000)
	bad := []string{
		"", " ", "+1", "-1", " 1", "1 ", "00", "01", "007", "1a", "a", "0x1", "1_0", "1.0", "1/2", "1:", "/1", "1\n", "1\x00",
		"\u0661", "\uff11", "\xff", "12345678901234567890123456789x", "0" + long, long + "x", "x" + long, long + " ", long + "/" + long,
	}
	for _, s := range bad {
		a, e := Parse(s)
		wrong(t, s, a, e, api.ErrForm)
	}
	for c := range 256 {
		one := string([]byte{'1', byte(c), '1'})
		a, e := Parse(one)
		if c >= '0' && c <= '9' {
			check(t, one, a, e, big.NewInt(int64(101+10*(c-'0'))))
			continue
		}
		wrong(t, one, a, e, api.ErrForm)
	}
}

// P1.1: ErrLimit from 2^4096 on.
func TestParseLimit(t *testing.T) {
	a, e := Parse(plus(power(4096), -1).String())
	check(t, "2^4096 - 1", a, e, plus(power(4096), -1))
	for _, s := range []string{
		power(4096).String(), plus(power(4096), 1).String(), power(4097).String(), strings.Repeat("9", 1234),
		"1" + strings.Repeat("0", 1234), strings.Repeat("8", 100000),
	} {
		a, e := Parse(s)
		wrong(t, s, a, e, api.ErrLimit)
	}
}

// P1.1: Bits, Zero.
func TestBits(t *testing.T) {
	for _, a := range samples(t, 5) {
		v := toBig(a)
		if a.Bits() != v.BitLen() || a.Zero() != (v.Sign() == 0) {
			t.Fatal(v, a.Bits(), a.Zero())
		}
	}
	for n := range api.MaxBits {
		a := fromBig(t, power(uint(n)))
		below := fromBig(t, plus(power(uint(n)), -1))
		if a.Bits() != n+1 || below.Bits() != n {
			t.Fatal(n, a.Bits(), below.Bits())
		}
	}
}

// P1.1, P1.4: Cmp; two are equal just if they have the same words.
func TestCmp(t *testing.T) {
	pairs(t, func(a, b Nat, x, y *big.Int) {
		if a.Cmp(b) != x.Cmp(y) {
			t.Fatal(x, y, a.Cmp(b))
		}
		if (a.Cmp(b) == 0) != slices.Equal(a.Words(), b.Words()) {
			t.Fatal("equal, but not the same words:", x, y)
		}
	})
	low, _ := From([]uint64{math.MaxUint64, 0, 1})
	high, _ := From([]uint64{0, 1, 1})
	if low.Cmp(high) != -1 || high.Cmp(low) != 1 || low.Cmp(low) != 0 {
		t.Fatal("the highest word that is unlike tells")
	}
}

// P1.2: Add, Sub, Mul.
func TestSumsAndProducts(t *testing.T) {
	pairs(t, func(a, b Nat, x, y *big.Int) {
		s, e := a.Add(b)
		check(t, "Add", s, e, new(big.Int).Add(x, y))
		p, e := a.Mul(b)
		check(t, "Mul", p, e, new(big.Int).Mul(x, y))
		d, e := a.Sub(b)
		if x.Cmp(y) < 0 {
			wrong(t, "Sub", d, e, api.ErrSign)
			return
		}
		check(t, "Sub", d, e, new(big.Int).Sub(x, y))
	})
}

// P1.2: ErrLimit at 4096 bits and one more.
func TestLimits(t *testing.T) {
	greatest := fromBig(t, plus(power(4096), -1))
	half := fromBig(t, power(2048))
	s, e := greatest.Add(Of(0))
	check(t, "greatest + 0", s, e, plus(power(4096), -1))
	s, e = greatest.Add(Of(1))
	wrong(t, "greatest + 1", s, e, api.ErrLimit)
	s, e = Of(1).Add(greatest)
	wrong(t, "1 + greatest", s, e, api.ErrLimit)
	p, e := greatest.Mul(Of(1))
	check(t, "greatest * 1", p, e, plus(power(4096), -1))
	p, e = half.Mul(half)
	wrong(t, "2^2048 * 2^2048", p, e, api.ErrLimit)
	p, e = half.Mul(fromBig(t, plus(power(2048), -1)))
	check(t, "2^2048 * (2^2048 - 1)", p, e, new(big.Int).Sub(power(4096), power(2048)))
	p, e = greatest.Mul(greatest)
	wrong(t, "greatest * greatest", p, e, api.ErrLimit)
	p, e = greatest.Mul(Of(0))
	check(t, "greatest * 0", p, e, big.NewInt(0))
}

// P1.2: Div.
func TestDiv(t *testing.T) {
	pairs(t, func(a, b Nat, x, y *big.Int) {
		q, r, e := a.Div(b)
		if y.Sign() == 0 {
			wrong(t, "Div", q, e, api.ErrZero)
			wrong(t, "Div", r, e, api.ErrZero)
			return
		}
		quotient, left := new(big.Int).QuoRem(x, y, new(big.Int))
		check(t, "Div", q, e, quotient)
		check(t, "what is left", r, e, left)
	})
}

// P1.2: Div, of words that are guessed once or twice too great, and of all lengths.
func TestDivGuesses(t *testing.T) {
	for _, c := range [][2][]uint64{
		{{0, 0, 1 << 63, 1<<63 - 1}, {1, 0, 1 << 63}},
		{{3, 0, 1 << 63}, {1, 0, 1 << 61}},
		{{0, math.MaxUint64 - 1, 1 << 63}, {math.MaxUint64, 1 << 63}},
		{{0, 0, 1 << 63}, {math.MaxUint64, 1 << 63}},
		{{math.MaxUint64, math.MaxUint64, math.MaxUint64}, {math.MaxUint64, math.MaxUint64}},
	} {
		a, _ := From(c[0])
		b, _ := From(c[1])
		q, r, e := a.Div(b)
		quotient, left := new(big.Int).QuoRem(toBig(a), toBig(b), new(big.Int))
		check(t, "Div", q, e, quotient)
		check(t, "what is left", r, e, left)
	}
	r := rand.New(rand.NewPCG(11, 1))
	for range 20000 {
		a, _ := From(words(r, 1+r.IntN(8)))
		b, _ := From(words(r, 1+r.IntN(5)))
		if b.Zero() {
			continue
		}
		q, left, e := a.Div(b)
		quotient, rest := new(big.Int).QuoRem(toBig(a), toBig(b), new(big.Int))
		check(t, "Div", q, e, quotient)
		check(t, "what is left", left, e, rest)
	}
}

// P1.2: Shl, Shr.
func TestShifts(t *testing.T) {
	for _, a := range samples(t, 13) {
		v, before := toBig(a), a.Words()
		for _, n := range []int{0, 1, 2, 31, 63, 64, 65, 127, 128, 2048, 4032, 4095, 4096, 4097} {
			l, e := a.Shl(n)
			check(t, "Shl", l, e, new(big.Int).Lsh(v, uint(n)))
			r, e := a.Shr(n)
			check(t, "Shr", r, e, new(big.Int).Rsh(v, uint(n)))
		}
		for _, n := range []int{-1, -64, math.MinInt} {
			l, e := a.Shl(n)
			wrong(t, "Shl", l, e, api.ErrRange)
			r, e := a.Shr(n)
			wrong(t, "Shr", r, e, api.ErrRange)
		}
		r, e := a.Shr(math.MaxInt)
		check(t, "Shr", r, e, big.NewInt(0))
		l, e := a.Shl(math.MaxInt)
		if a.Zero() {
			check(t, "0 Shl", l, e, big.NewInt(0))
		} else {
			wrong(t, "Shl", l, e, api.ErrLimit)
		}
		if !slices.Equal(before, a.Words()) {
			t.Fatal("a number was changed:", v)
		}
	}
	a, e := Of(1).Shl(4095)
	check(t, "2^4095", a, e, power(4095))
	a, e = Of(1).Shl(4096)
	wrong(t, "2^4096", a, e, api.ErrLimit)
	a, e = Of(3).Shl(4095)
	wrong(t, "3 * 2^4095", a, e, api.ErrLimit)
}

// P1.3: Gcd.
func TestGcd(t *testing.T) {
	pairs(t, func(a, b Nat, x, y *big.Int) {
		check(t, "Gcd", a.Gcd(b), api.OK, new(big.Int).GCD(nil, nil, x, y))
	})
	r := rand.New(rand.NewPCG(17, 1))
	for range 2000 {
		a, _ := From(words(r, 1+r.IntN(4)))
		b, _ := From(words(r, 1+r.IntN(4)))
		c, _ := From(words(r, 1+r.IntN(4)))
		a, _ = a.Mul(c)
		b, _ = b.Mul(c)
		check(t, "Gcd", a.Gcd(b), api.OK, new(big.Int).GCD(nil, nil, toBig(a), toBig(b)))
	}
	for _, a := range samples(t, 19) {
		check(t, "Gcd of 0", Nat{}.Gcd(a), api.OK, toBig(a))
		check(t, "Gcd with 0", a.Gcd(Nat{}), api.OK, toBig(a))
		check(t, "Gcd of itself", a.Gcd(a), api.OK, toBig(a))
	}
}

// P1.4: sums, products and quotients keep their laws.
func TestLaws(t *testing.T) {
	r := rand.New(rand.NewPCG(23, 1))
	some := func() Nat {
		a, _ := From(words(r, r.IntN(21)))
		return a
	}
	same := func(what string, a, b Nat) {
		t.Helper()
		if a.Cmp(b) != 0 || !slices.Equal(a.Words(), b.Words()) || a.String() != b.String() {
			t.Fatal(what, a, b)
		}
	}
	sum := func(a, b Nat) Nat { s, _ := a.Add(b); return s }
	times := func(a, b Nat) Nat { p, _ := a.Mul(b); return p }
	for range 500 {
		a, b, c := some(), some(), some()
		same("a + b", sum(a, b), sum(b, a))
		same("a + b + c", sum(sum(a, b), c), sum(a, sum(b, c)))
		same("ab", times(a, b), times(b, a))
		same("abc", times(times(a, b), c), times(a, times(b, c)))
		same("a(b + c)", times(a, sum(b, c)), sum(times(a, b), times(a, c)))
		back, _ := sum(a, b).Sub(b)
		same("a + b - b", back, a)
		up, _ := a.Shl(77)
		down, _ := up.Shr(77)
		same("a up and down", down, a)
		if b.Zero() {
			continue
		}
		q, left, e := a.Div(b)
		if e != api.OK || left.Cmp(b) >= 0 {
			t.Fatal("what is left isn't below", a, b, left, e)
		}
		same("qb + r", sum(times(q, b), left), a)
		q, left, _ = times(a, b).Div(b)
		same("ab over b", q, a)
		same("nothing left", left, Nat{})
		g := a.Gcd(b)
		same("Gcd of products", times(a, c).Gcd(times(b, c)), times(g, c))
	}
}
