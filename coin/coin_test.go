package coin

import (
	"math"
	"math/big"
	"math/bits"
	"math/rand/v2"
	"strings"
	"testing"

	"chaff/api"
	"chaff/tape"
)

// The tests read anew, bit by bit and with math/big, which the program itself may not call.

// bitsOf are the bits of a text, of each byte the highest one first.
func bitsOf(s string) []uint {
	var out []uint
	for _, b := range []byte(s) {
		for i := 7; i >= 0; i-- {
			out = append(out, uint(b>>i)&1)
		}
	}
	return out
}

// text is the text of bits, which are filled up to whole bytes by noughts.
func text(digits string) string {
	for len(digits)%8 != 0 {
		digits += "0"
	}
	var out strings.Builder
	for i := 0; i < len(digits); i += 8 {
		b := byte(0)
		for _, d := range digits[i : i+8] {
			b = b<<1 | byte(d-'0')
		}
		out.WriteByte(b)
	}
	return out.String()
}

// told is what the chapter says of a tape's bits: what was read, and the place behind it; not ok, if they are too few.
type told struct {
	v  *big.Int
	at int
	ok bool
}

// below is a number below n, from a place on.
func below(all []uint, at int, n *big.Int) told {
	width := new(big.Int).Sub(n, big.NewInt(1)).BitLen()
	for {
		if at+width > len(all) {
			return told{}
		}
		v := new(big.Int)
		for _, b := range all[at : at+width] {
			v.Add(v.Lsh(v, 1), big.NewInt(int64(b)))
		}
		at += width
		if v.Cmp(n) < 0 {
			return told{v, at, true}
		}
	}
}

// decay is whether a decay of u in d comes true, as 1 or 0, from a place on.
func decay(all []uint, at int, u, d *big.Int) told {
	for k := int64(1); ; k++ {
		got := below(all, at, new(big.Int).Mul(d, big.NewInt(k)))
		if !got.ok {
			return got
		}
		at = got.at
		if got.v.Cmp(u) >= 0 {
			return told{big.NewInt(k % 2), at, true}
		}
	}
}

func wide(n uint64) *big.Int { return new(big.Int).SetUint64(n) }

// behind is the tape of a text behind at bits.
func behind(t testing.TB, s string, at int) tape.Tape {
	t.Helper()
	x := tape.New(s)
	for range at {
		var e api.Errno
		if _, x, e = x.Read(1); e != api.OK {
			t.Fatal(e)
		}
	}
	return x
}

// one is 1 of what is true.
func one(yes bool) uint64 {
	if yes {
		return 1
	}
	return 0
}

// check holds an answer of a tape against what is told of it.
func check(t *testing.T, what string, x tape.Tape, v uint64, y tape.Tape, e api.Errno, want told) {
	t.Helper()
	if !want.ok {
		wrong(t, what, x, v, y, e, api.ErrBits)
		return
	}
	if e != api.OK || wide(v).Cmp(want.v) != 0 || y.At() != want.at || y.At()+y.Left() != x.At()+x.Left() {
		t.Fatal(what, v, y.At(), e, "not", want)
	}
}

// wrong holds an answer against an error, beside which the tape is as it was.
func wrong(t *testing.T, what string, x tape.Tape, v uint64, y tape.Tape, e, want api.Errno) {
	t.Helper()
	if e != want || v != 0 || y != x {
		t.Fatal(what, v, y.At(), e, "not", want)
	}
}

// heldBelow, heldChance and heldDecay hold the call of a text from a place on against what is told.
func heldBelow(t *testing.T, s string, at int, n uint64) {
	t.Helper()
	x := behind(t, s, at)
	v, y, e := Below(x, n)
	check(t, "Below", x, v, y, e, below(bitsOf(s), at, wide(n)))
}

func heldChance(t *testing.T, s string, at int, n, d uint64) {
	t.Helper()
	x := behind(t, s, at)
	yes, y, e := Chance(x, n, d)
	want := below(bitsOf(s), at, wide(d))
	if want.ok {
		want.v = wide(one(want.v.Cmp(wide(n)) < 0))
	}
	check(t, "Chance", x, one(yes), y, e, want)
}

func heldDecay(t *testing.T, s string, at int, u, d uint64) {
	t.Helper()
	x := behind(t, s, at)
	yes, y, e := Decay(x, u, d)
	check(t, "Decay", x, one(yes), y, e, decay(bitsOf(s), at, wide(u), wide(d)))
}

func TestExample(t *testing.T) {
	v, x, e := Below(tape.New("\x60"), 3)
	if v != 1 || x.At() != 2 || e != api.OK {
		t.Fatal(v, x.At(), e)
	}
}

// allOf hands over all texts of two bytes.
func allOf(do func(s string)) {
	for n := range 1 << 16 {
		do(string([]byte{byte(n >> 8), byte(n)}))
	}
}

// P8.1: of all texts of two bytes.
func TestAll(t *testing.T) {
	allOf(func(s string) {
		all := bitsOf(s)
		x := tape.New(s)
		for _, n := range []uint64{1, 2, 3, 5, 8, 9, 300} {
			v, y, e := Below(x, n)
			check(t, "Below", x, v, y, e, below(all, 0, wide(n)))
		}
		for _, c := range [][2]uint64{{0, 1}, {1, 1}, {0, 3}, {1, 2}, {1, 3}, {2, 3}, {3, 3}, {5, 7}} {
			yes, y, e := Decay(x, c[0], c[1])
			check(t, "Decay", x, one(yes), y, e, decay(all, 0, wide(c[0]), wide(c[1])))
		}
	})
}

// edges are about powers of 2, up to the greatest number: there n less 1 has one bit more, or less, than n.
func edges() []uint64 {
	out := []uint64{1, 2, 3, 5, 6, 7, 100}
	for i := 2; i < 64; i++ {
		p := uint64(1) << i
		out = append(out, p-1, p, p+1)
	}
	return append(out, math.MaxUint64, math.MaxUint64-1)
}

// some is a text of any bytes, or of such as have a long row of one bit.
func some(r *rand.Rand, n int) string {
	out := make([]byte, n)
	for i := range out {
		out[i] = byte(r.Uint32())
	}
	for i := range r.IntN(n + 1) {
		out[i] = byte(r.IntN(2) * 255)
	}
	return string(out)
}

// P8.1: numbers below n, and chances, of all sizes, from any place.
func TestSizes(t *testing.T) {
	r := rand.New(rand.NewPCG(8, 1))
	for _, n := range edges() {
		for range 40 {
			s := some(r, r.IntN(40))
			at := r.IntN(8*len(s) + 1)
			heldBelow(t, s, at, n)
			for _, m := range []uint64{0, 1, n / 2, n - 1, n, n + 1, r.Uint64(), math.MaxUint64} {
				heldChance(t, s, at, m, n)
			}
		}
	}
}

// P8.1: the number next to n, n itself, and the greatest that is read: the first is taken, of the others it is asked again.
func TestAskedAgain(t *testing.T) {
	digits := func(v uint64, width int) string {
		d := wide(v).Text(2)
		return strings.Repeat("0", width-len(d)) + d
	}
	for _, n := range edges()[1:] {
		width := bits.Len64(n - 1)
		last, most := digits(n-1, width), strings.Repeat("1", width)
		for _, again := range []string{"", most, most + most} {
			if again != "" && n&(n-1) == 0 {
				continue // all that is read is below a power of 2
			}
			s := text(again + last)
			v, x, e := Below(tape.New(s), n)
			if v != n-1 || x.At() != len(again+last) || e != api.OK {
				t.Fatal(n, v, x.At(), e)
			}
		}
		if n&(n-1) != 0 {
			s := text(digits(n, width) + last)
			if v, x, e := Below(tape.New(s), n); v != n-1 || x.At() != 2*width || e != api.OK {
				t.Fatal(n, v, x.At(), e)
			}
		}
	}
}

// P8.1: of 1 no bits are read.
func TestBelowOne(t *testing.T) {
	for _, s := range []string{"", "\x00", "\xff\xff"} {
		for at := range 8*len(s) + 1 {
			x := behind(t, s, at)
			if v, y, e := Below(x, 1); v != 0 || y != x || e != api.OK {
				t.Fatal(v, e)
			}
			if yes, y, e := Chance(x, 1, 1); !yes || y != x || e != api.OK {
				t.Fatal(yes, e)
			}
			if yes, y, e := Chance(x, 0, 1); yes || y != x || e != api.OK {
				t.Fatal(yes, e)
			}
			if yes, y, e := Decay(x, 0, 1); !yes || y != x || e != api.OK {
				t.Fatal(yes, e)
			}
		}
	}
}

// P8.1: a chance that is sure to come true, or sure not to, reads its number all the same.
func TestSure(t *testing.T) {
	for _, n := range []uint64{0, 5, 6, math.MaxUint64} {
		yes, x, e := Chance(tape.New("\xe8"), n, 5)
		if yes != (n > 0) || x.At() != 6 || e != api.OK {
			t.Fatal(n, yes, x.At(), e)
		}
		old := tape.New("\xff")
		yes, x, e = Chance(old, n, 5)
		wrong(t, "Chance", old, one(yes), x, e, api.ErrBits)
	}
}

// P8.1: decays, of all sizes, from any place, up to the greatest d.
func TestDecay(t *testing.T) {
	r := rand.New(rand.NewPCG(8, 2))
	for _, d := range edges() {
		if d > 1<<32-1 {
			continue
		}
		for range 40 {
			s := some(r, r.IntN(60))
			at := r.IntN(8*len(s) + 1)
			for _, u := range []uint64{0, 1, d / 2, d - 1, d, r.Uint64N(d + 1)} {
				heldDecay(t, s, at, u, d)
			}
		}
	}
}

// P8.1: long rows of chances that come true: the place behind them, and which way they end.
func TestLongDecay(t *testing.T) {
	for _, c := range [][2]uint64{{1, 1}, {1, 2}, {7, 9}, {1 << 31, 1<<32 - 1}, {1<<32 - 1, 1<<32 - 1}} {
		for n := range 60 {
			heldDecay(t, strings.Repeat("\x00", n)+strings.Repeat("\x7f", 40), 0, c[0], c[1])
		}
		s := strings.Repeat("\x00", 1<<20)
		x := tape.New(s)
		yes, y, e := Decay(x, c[0], c[1])
		wrong(t, "Decay", x, one(yes), y, e, api.ErrBits)
	}
	x := tape.New(strings.Repeat("\xff", 1<<20))
	v, y, e := Below(x, 3)
	wrong(t, "Below", x, v, y, e, api.ErrBits)
}

// P8.1: errors, each ahead of the next, at any place, of tapes with bits and without.
func TestWrong(t *testing.T) {
	for _, s := range []string{"", "x", strings.Repeat("\x00", 30), strings.Repeat("\xff", 30)} {
		for at := range min(9, 8*len(s)+1) {
			x := behind(t, s, at)
			v, y, e := Below(x, 0)
			wrong(t, "Below", x, v, y, e, api.ErrZero)
			for _, n := range []uint64{0, 1, 1 << 32, math.MaxUint64} {
				yes, y, e := Chance(x, n, 0)
				wrong(t, "Chance", x, one(yes), y, e, api.ErrZero)
				yes, y, e = Decay(x, n, 0)
				wrong(t, "Decay", x, one(yes), y, e, api.ErrZero)
			}
			for _, c := range [][2]uint64{
				{2, 1}, {3, 2}, {math.MaxUint64, 1}, {1 << 32, 1<<32 - 1}, {math.MaxUint64, 1<<32 - 1}, {1<<32 + 1, 1},
				{0, 1 << 32}, {1, 1 << 32}, {1 << 32, 1 << 32}, {1<<32 + 1, 1 << 32}, {1, 1<<32 + 1}, {0, math.MaxUint64}, {math.MaxUint64, math.MaxUint64},
			} {
				yes, y, e := Decay(x, c[0], c[1])
				wrong(t, "Decay", x, one(yes), y, e, api.ErrRange)
			}
		}
	}
	empty := tape.Tape{}
	v, y, e := Below(empty, 2)
	wrong(t, "Below", empty, v, y, e, api.ErrBits)
	yes, y, e := Chance(empty, 1, 2)
	wrong(t, "Chance", empty, one(yes), y, e, api.ErrBits)
	yes, y, e = Decay(empty, 1, 1)
	wrong(t, "Decay", empty, one(yes), y, e, api.ErrBits)
}

// P8.1: the greatest d of a decay is allowed.
func TestGreatest(t *testing.T) {
	const d = 1<<32 - 1
	// The first 32 bits are d less 1: of d in d that is true, of one less it isn't. Then 33 bits tell 2 d less 1.
	s := text(wide(d-1).Text(2) + wide(2*d-1).Text(2))
	if yes, x, e := Decay(tape.New(s), d-1, d); !yes || x.At() != 32 || e != api.OK {
		t.Fatal(yes, x.At(), e)
	}
	if yes, x, e := Decay(tape.New(s), d, d); yes || x.At() != 65 || e != api.OK {
		t.Fatal(yes, x.At(), e)
	}
}

// P8.2: what comes of a tape comes of each longer one, and as many bits are read.
func TestLonger(t *testing.T) {
	r := rand.New(rand.NewPCG(8, 3))
	for range 3000 {
		s := some(r, 1+r.IntN(12))
		at := r.IntN(8)
		x, longer := behind(t, s, at), behind(t, s+some(r, 1+r.IntN(12)), at)
		d := 1 + r.Uint64()>>(32+r.IntN(32))
		u := r.Uint64N(d + 1)
		same := func(what string, v uint64, y tape.Tape, e api.Errno, w uint64, z tape.Tape, f api.Errno) {
			t.Helper()
			if e == api.OK && (f != api.OK || v != w || y.At() != z.At()) {
				t.Fatal(what, s, u, d, v, e, w, f)
			}
		}
		v, y, e := Below(x, d)
		w, z, f := Below(longer, d)
		same("Below", v, y, e, w, z, f)
		yes, y, e := Chance(x, u, d)
		also, z, f := Chance(longer, u, d)
		same("Chance", one(yes), y, e, one(also), z, f)
		if d <= 1<<32-1 {
			yes, y, e = Decay(x, u, d)
			also, z, f = Decay(longer, u, d)
			same("Decay", one(yes), y, e, one(also), z, f)
		}
	}
}

// P8.2: of all tapes of some length as many lead to each number below n.
func TestEven(t *testing.T) {
	for n := uint64(1); n <= 40; n++ {
		counts := make([]int, n)
		allOf(func(s string) {
			// Two bits that were read already make the length another one than bytes are.
			x := behind(t, s, int(n%3))
			if v, _, e := Below(x, n); e == api.OK {
				counts[v]++
			}
		})
		for v, c := range counts {
			if c != counts[0] || c == 0 {
				t.Fatal(n, v, c, counts[0])
			}
		}
	}
}

// A decay comes true with e to the less u over d: of all tapes of a length the part of which it does is at most that, and that is at most this part and the part of which nothing comes yet.
func TestDecayBounds(t *testing.T) {
	for _, c := range [][2]uint64{{0, 1}, {1, 1}, {0, 7}, {1, 7}, {3, 7}, {7, 7}, {1, 2}, {3, 4}, {1, 100}, {99, 100}} {
		yes, open := 0, 0
		allOf(func(s string) {
			switch ok, _, e := Decay(tape.New(s), c[0], c[1]); {
			case e != api.OK:
				open++
			case ok:
				yes++
			}
		})
		want := math.Exp(-float64(c[0])/float64(c[1])) * (1 << 16)
		if float64(yes) > want+1e-6 || want > float64(yes+open)+1e-6 {
			t.Fatal(c, yes, open, want)
		}
	}
}

// A decay comes true with e to the less u over d: of many tapes, long enough for each.
func TestDecayChance(t *testing.T) {
	r := rand.New(rand.NewPCG(8, 4))
	for _, c := range [][2]uint64{{1, 1}, {1, 2}, {3, 7}, {7, 7}, {99, 100}, {1 << 31, 1<<32 - 1}} {
		const rounds = 40000
		yes := 0
		for range rounds {
			out := make([]byte, 200)
			for i := range out {
				out[i] = byte(r.Uint32())
			}
			ok, _, e := Decay(tape.New(string(out)), c[0], c[1])
			if e != api.OK {
				t.Fatal(c, e)
			}
			yes += int(one(ok))
		}
		// Half of 40000 is off by 100 as a rule, so never by 500.
		if want := math.Exp(-float64(c[0])/float64(c[1])) * rounds; math.Abs(float64(yes)-want) > 500 {
			t.Fatal(c, yes, want)
		}
	}
}

// A tape stays as it was, and the same call answers the same.
func TestStays(t *testing.T) {
	s := "\x5a\x00\x13\xff\x80\x01"
	x := behind(t, s, 5)
	kept := x
	for range 2 {
		heldBelow(t, s, 5, 11)
		heldChance(t, s, 5, 4, 11)
		heldDecay(t, s, 5, 4, 11)
		Below(x, 11)
		Chance(x, 4, 11)
		Decay(x, 4, 11)
		if x != kept || x.At() != 5 {
			t.Fatal("it was changed")
		}
	}
}
