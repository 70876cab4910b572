package lap

import (
	"math"
	"math/big"
	"math/bits"
	"math/rand/v2"
	"strconv"
	"strings"
	"testing"

	"chaff/api"
	"chaff/tape"
)

// The tests read anew, off bits written out as digits, as the chapters of layers 8 and 9 say it.

// short is what a reader panics with, where its digits are too few.
type short struct{}

// reader is the digits that are left.
type reader struct{ left string }

// next is a number below n.
func (r *reader) next(n uint64) uint64 {
	width := bits.Len64(n - 1)
	for {
		if width > len(r.left) {
			panic(short{})
		}
		v, _ := strconv.ParseUint("0"+r.left[:width], 2, 64)
		r.left = r.left[width:]
		if v < n {
			return v
		}
	}
}

// decay is whether a decay of u in d comes true.
func (r *reader) decay(u, d uint64) bool {
	for k := uint64(1); ; k++ {
		if r.next(d*k) >= u {
			return k%2 == 1
		}
	}
}

// noise is a noise by s over d.
func (r *reader) noise(s, d uint64) int64 {
	for {
		u := r.next(d)
		if !r.decay(u, d) {
			continue
		}
		v := uint64(0)
		for r.decay(1, 1) {
			v++
		}
		y := int64((u + d*v) / s)
		if r.next(2) == 0 {
			return y
		}
		if y > 0 {
			return -y
		}
	}
}

// told is the noise of digits and how many of them were read; not ok, if they are too few.
func told(digits string, s, d uint64) (z int64, read int, ok bool) {
	defer func() {
		if p := recover(); p != nil {
			if _, is := p.(short); !is {
				panic(p)
			}
			z, read, ok = 0, 0, false
		}
	}()
	r := reader{digits}
	z = r.noise(s, d)
	return z, len(digits) - len(r.left), true
}

// lay is a tape of which just these digits are left. The bits ahead of them, up to whole bytes, were read.
func lay(t testing.TB, digits string) tape.Tape {
	t.Helper()
	ahead := (8 - len(digits)%8) % 8
	all := strings.Repeat("1", ahead) + digits
	var text []byte
	for i := 0; i < len(all); i += 8 {
		b, err := strconv.ParseUint(all[i:i+8], 2, 8)
		if err != nil {
			t.Fatal(err)
		}
		text = append(text, byte(b))
	}
	_, x, e := tape.New(string(text)).Read(ahead)
	if e != api.OK {
		t.Fatal(e)
	}
	return x
}

// held holds the noise of digits against what is told of them.
func held(t *testing.T, digits string, s, d uint64) {
	t.Helper()
	x := lay(t, digits)
	z, y, e := Sample(x, s, d)
	want, read, ok := told(digits, s, d)
	if !ok {
		wrong(t, x, s, d, api.ErrBits)
		return
	}
	if z != want || y.At()-x.At() != read || x.Left()-y.Left() != read || e != api.OK {
		t.Fatal(digits, s, d, z, y.At()-x.At(), e, "not", want, read)
	}
}

// wrong looks whether a call has an error, beside which the tape is as it was.
func wrong(t *testing.T, x tape.Tape, s, d uint64, want api.Errno) {
	t.Helper()
	if z, y, e := Sample(x, s, d); z != 0 || y != x || e != want {
		t.Fatal(s, d, z, y.At(), e, "not", want)
	}
}

// some are any digits, some of them with long rows of one.
func some(r *rand.Rand, n int) string {
	out := make([]byte, n)
	for i := range out {
		out[i] = '0' + byte(r.IntN(2))
	}
	if n > 0 && r.IntN(2) == 0 {
		from := r.IntN(n)
		c := '0' + byte(r.IntN(2))
		for i := from; i < min(n, from+r.IntN(40)); i++ {
			out[i] = c
		}
	}
	return string(out)
}

// ratios are small ones, whose noise needs few bits as a rule, and such as come to an end of what is allowed.
func ratios() [][2]uint64 {
	return [][2]uint64{
		{1, 1}, {1, 2}, {2, 1}, {1, 3}, {3, 2}, {2, 3}, {3, 7}, {7, 3}, {1, 8}, {8, 1}, {5, 9}, {4, 4}, {100, 1},
		{1<<32 - 1, 1}, {1, 1<<32 - 1}, {1<<32 - 1, 1<<32 - 1}, {1 << 31, 1<<32 - 1}, {3, 1 << 31},
	}
}

func TestExample(t *testing.T) {
	z, x, e := Sample(tape.New("\x80"), 1, 1)
	if z != 0 || x.At() != 2 || e != api.OK {
		t.Fatal(z, x.At(), e)
	}
}

// P9.1: each way through, by 1 over 1 and by 1 over 2, written out.
func TestWayByWay(t *testing.T) {
	for _, c := range []struct {
		s, d uint64
		bits string
		want int64
	}{
		{1, 1, "1" + "0", 0},                              // V is 0, B is 0
		{1, 1, "1" + "1" + "1" + "0", 0},                  // B is 1 and Y is 0: anew
		{1, 1, "001" + "1" + "0", 1},                      // one decay comes true, the next doesn't
		{1, 1, "001" + "1" + "1", -1},                     // and B is 1
		{1, 1, "001" + "001" + "1" + "1", -2},             // two decays come true
		{1, 1, "11" + "11" + "001" + "1" + "1", -1},       // twice anew
		{1, 2, "0" + "1" + "1" + "0", 0},                  // U is 0: the decay of 0 in 2 reads a number below 2, too
		{1, 2, "1" + "1" + "1" + "0", 1},                  // U is 1: a decay of 1 in 2 by its first chance; V 0
		{1, 2, "1" + "1" + "1" + "1", -1},                 // and B is 1
		{1, 2, "1" + "001" + "0" + "1" + "1" + "0", 0},    // the decay ends at k 2: anew, U is 0
		{1, 2, "0" + "0" + "001" + "1" + "0", 2},          // U 0, V 1: 2 over 1
		{2, 2, "1" + "1" + "001" + "1" + "0", 1},          // U 1, V 1: 3 over 2, down
		{2, 2, "1" + "1" + "1" + "1" + "00001" + "10", 1}, // U 1, V 0: 1 over 2 is 0, and B is 1: anew
		{3, 2, "1" + "1" + "001" + "1" + "1", -1},         // 3 over 3
		{4, 2, "1" + "1" + "001" + "1" + "0", 0},          // 3 over 4, down
	} {
		z, read, ok := told(c.bits, c.s, c.d)
		if !ok || z != c.want || read != len(c.bits) {
			t.Fatal("the test is wrong:", c, z, read, ok)
		}
		held(t, c.bits, c.s, c.d)
		held(t, c.bits+"10110", c.s, c.d)
		held(t, c.bits[:len(c.bits)-1], c.s, c.d)
	}
}

// P9.1: of all tapes of 12 bits.
func TestAll(t *testing.T) {
	const width = 12
	for n := range 1 << width {
		digits := strconv.FormatInt(int64(n)+1<<width, 2)[1:]
		for _, c := range ratios()[:13] {
			held(t, digits, c[0], c[1])
		}
	}
}

// P9.1: of many tapes, by ratios of all sizes, from any place.
func TestSizes(t *testing.T) {
	r := rand.New(rand.NewPCG(9, 1))
	all := ratios()
	for range 400 {
		all = append(all, [2]uint64{1 + r.Uint64()>>(32+r.IntN(32)), 1 + r.Uint64()>>(32+r.IntN(32))})
	}
	for _, c := range all {
		s, d := min(c[0], 1<<32-1), min(c[1], 1<<32-1)
		for range 40 {
			held(t, some(r, r.IntN(300)), s, d)
		}
	}
}

// P9.1: many decays of 1 in 1, one behind the other.
func TestLong(t *testing.T) {
	for _, n := range []int{10, 100, 1000, 50000} {
		row := strings.Repeat("001", n) + "1"
		for _, b := range []string{"0", "1"} {
			for _, s := range []uint64{1, 2, 3, 7, 1000, 1<<32 - 1} {
				held(t, row+b+"10", s, 1)
				// U is 0, or the greatest. Its decay comes true by the first chance, which reads the same bits.
				for _, u := range []string{strings.Repeat("0", 32), strings.Repeat("1", 31) + "0"} {
					held(t, u+u+row+b+"0110", s, 1<<32-1)
				}
			}
		}
		x := lay(t, strings.Repeat("001", n))
		wrong(t, x, 1, 1, api.ErrBits)
		x = lay(t, row)
		wrong(t, x, 1, 1, api.ErrBits)
	}
	// What is told then: t times V and U, over s.
	z, _, e := Sample(lay(t, strings.Repeat("0", 64)+strings.Repeat("001", 50000)+"1"+"1"), 1, 1<<32-1)
	if z != -50000*(1<<32-1) || e != api.OK {
		t.Fatal(z, e)
	}
}

// P9.1: beginning anew for long reads all of it, and a tape without end of it is too short.
func TestAnew(t *testing.T) {
	for _, n := range []int{1, 2, 100, 50000} {
		held(t, strings.Repeat("11", n)+"0011"+"1", 1, 1)
		held(t, strings.Repeat("1001", n)+"011"+"0", 1, 2)
		wrong(t, lay(t, strings.Repeat("11", n)), 1, 1, api.ErrBits)
		wrong(t, lay(t, strings.Repeat("1001", n)), 1, 2, api.ErrBits)
	}
	wrong(t, tape.New(strings.Repeat("\xff", 1<<18)), 1<<32-1, 1<<32-1, api.ErrBits)
	wrong(t, tape.New(strings.Repeat("\x00", 1<<18)), 1, 1, api.ErrBits)
}

// P9.1: what may not be, ahead of too few bits, at any place; the ends of what may be.
func TestWrong(t *testing.T) {
	for _, digits := range []string{"", "1", "10", "1010101010", strings.Repeat("0", 100), strings.Repeat("10", 100)} {
		x := lay(t, digits)
		for _, out := range []uint64{0, 1 << 32, 1<<32 + 1, 1 << 33, 1<<63 + 1, math.MaxUint64} {
			for _, in := range []uint64{0, 1, 2, 1<<32 - 1, 1 << 32, math.MaxUint64} {
				wrong(t, x, out, in, api.ErrRange)
				wrong(t, x, in, out, api.ErrRange)
			}
		}
	}
	for _, c := range ratios() {
		wrong(t, tape.Tape{}, c[0], c[1], api.ErrBits)
		wrong(t, lay(t, ""), c[0], c[1], api.ErrBits)
	}
	if z, x, e := Sample(tape.New("\x80"), 1<<32-1, 1); z != 0 || x.At() != 2 || e != api.OK {
		t.Fatal(z, x.At(), e)
	}
	// U 0, a decay of 0 in d by a number that isn't below 0, V 0 and B 0.
	if z, x, e := Sample(tape.New("\x00\x00\x00\x00\x00\x00\x00\x00\x80"), 1, 1<<32-1); z != 0 || x.At() != 66 || e != api.OK {
		t.Fatal(z, x.At(), e)
	}
}

// P9.2: what comes of a tape comes of each longer one, and as many bits are read; of each shorter one, too, that has these bits, and of none that has fewer.
func TestLonger(t *testing.T) {
	r := rand.New(rand.NewPCG(9, 2))
	for range 4000 {
		all := ratios()
		c := all[r.IntN(len(all))]
		digits := some(r, r.IntN(150))
		x := lay(t, digits)
		z, y, e := Sample(x, c[0], c[1])
		if e != api.OK {
			continue
		}
		read := y.At() - x.At()
		for _, other := range []string{digits + some(r, 1+r.IntN(150)), digits[:read], digits[:read] + some(r, r.IntN(50))} {
			x := lay(t, other)
			w, y, e := Sample(x, c[0], c[1])
			if w != z || y.At()-x.At() != read || e != api.OK {
				t.Fatal(c, digits, other, z, read, w, y.At()-x.At(), e)
			}
		}
		for n := range read {
			wrong(t, lay(t, digits[:n]), c[0], c[1], api.ErrBits)
		}
	}
}

// parts goes through all tapes of at most so many bits that begin with digits. It adds to sums what part of all tapes leads to each noise, and answers what part leads to nothing yet.
func parts(t *testing.T, digits string, deepest int, s, d uint64, sums map[int64]float64) float64 {
	x := lay(t, digits)
	z, y, e := Sample(x, s, d)
	part := math.Ldexp(1, -len(digits))
	switch {
	case e == api.OK:
		if y.Left() != 0 {
			t.Fatal(s, d, digits, "was not all read, but one bit less was too short")
		}
		sums[z] += part
		return 0
	case len(digits) == deepest:
		return part
	}
	return parts(t, digits+"0", deepest, s, d, sums) + parts(t, digits+"1", deepest, s, d, sums)
}

// law is the chance of z: (1 - q) over (1 + q), times q to the |z|, where q is e to the less s over t.
func law(s, d uint64, z int64) float64 {
	g := float64(s) / float64(d)
	q := math.Exp(-g)
	return -math.Expm1(-g) / (1 + q) * math.Exp(-g*math.Abs(float64(z)))
}

// P9.3: of all tapes of so many bits the part that leads to z is at most its chance, and that at most this part and the part that leads to nothing yet; as many lead to z as to z below 0.
func TestBounds(t *testing.T) {
	const exact = 1e-12 // what floats are off, at most
	for _, c := range []struct {
		s, d uint64
		open float64 // the part that leads to nothing yet is at most that: else the bounds said little
	}{
		{1, 1, 0.1}, {2, 1, 0.2}, {5, 1, 0.2}, {1<<32 - 1, 1, 0.2}, {1, 2, 0.2}, {4, 4, 0.5}, {3, 7, 0.6}, {7, 3, 0.6}, {1, 8, 0.5}, {9, 8, 0.6},
	} {
		for _, deepest := range []int{0, 1, 5, 18} {
			sums := map[int64]float64{}
			open := parts(t, "", deepest, c.s, c.d, sums)
			if deepest == 18 && open > c.open {
				t.Fatal(c, open)
			}
			all := open
			for z := int64(-200); z <= 200; z++ {
				want := law(c.s, c.d, z)
				if sums[z] > want+exact || want > sums[z]+open+exact || sums[z] != sums[-z] {
					t.Fatal(c, deepest, z, sums[z], sums[-z], want, open)
				}
				all += sums[z]
			}
			if math.Abs(all-1) > exact {
				t.Fatal(c, deepest, all)
			}
		}
	}
}

// P9.3: of many tapes, long enough for each: how often a noise is at most z.
func TestChance(t *testing.T) {
	r := rand.New(rand.NewPCG(9, 3))
	for _, c := range [][2]uint64{{1, 1}, {1, 2}, {3, 7}, {1, 10}, {1, 100}, {99, 100}, {3, 1}, {1 << 28, 1<<32 - 1}, {1<<32 - 1, 1<<32 - 1}} {
		const rounds = 20000
		counts := map[int64]int{}
		for range rounds {
			text := make([]byte, 400)
			for i := range text {
				text[i] = byte(r.Uint32())
			}
			z, _, e := Sample(tape.New(string(text)), c[0], c[1])
			if e != api.OK {
				t.Fatal(c, e)
			}
			counts[z]++
		}
		got, want := 0.0, 0.0
		for z := int64(-2000); z <= 2000; z++ {
			got += float64(counts[z])
			want += law(c[0], c[1], z) * rounds
			// Half of 20000 is off by 71 as a rule, so never by 400. What is beyond 2000 has no chance to speak of.
			if math.Abs(got-want) > 400 {
				t.Fatal(c, z, got, want)
			}
		}
	}
}

// P9.1: Y, up to what comes of the longest tapes: V isn't above 2^33 there, and t times V may have more than 64 bits.
func TestSize(t *testing.T) {
	edges := []uint64{1, 2, 3, 1000, 1<<31 - 1, 1 << 31, 1<<32 - 2, 1<<32 - 1}
	for _, d := range edges {
		for _, u := range []uint64{0, d / 2, d - 1} {
			for _, v := range append([]uint64{0, 1 << 32, 1<<32 + 1, 1<<32 + 2, 1 << 33}, edges...) {
				for _, s := range edges {
					heldSize(t, u, v, s, d)
				}
			}
		}
	}
}

// heldSize holds Y against the same by math/big; if it has more than 64 bits, it is the greatest word.
func heldSize(t *testing.T, u, v, s, d uint64) {
	t.Helper()
	wide := func(n uint64) *big.Int { return new(big.Int).SetUint64(n) }
	want := wide(d)
	want.Mul(want, wide(v)).Add(want, wide(u)).Div(want, wide(s))
	if !want.IsUint64() {
		want = wide(math.MaxUint64)
	}
	if got := size(u, v, s, d); wide(got).Cmp(want) != 0 {
		t.Fatal(u, v, s, d, got, want)
	}
}

// P9.1: Y and Y below 0, up to the ends of an int64.
func TestSigned(t *testing.T) {
	for _, c := range []struct {
		y         uint64
		more, yet int64
	}{
		{0, 0, 0}, {1, 1, -1}, {1 << 40, 1 << 40, -1 << 40},
		{1<<63 - 1, math.MaxInt64, -math.MaxInt64},
		{1 << 63, math.MaxInt64, math.MinInt64},
		{1<<63 + 1, math.MaxInt64, math.MinInt64},
		{math.MaxUint64, math.MaxInt64, math.MinInt64},
	} {
		if a, b := signed(c.y, false), signed(c.y, true); a != c.more || b != c.yet {
			t.Fatal(c, a, b)
		}
	}
}

// A tape stays as it was, and the same call answers the same.
func TestStays(t *testing.T) {
	x := lay(t, "0011"+"1"+"1010011010")
	kept := x
	for range 3 {
		z, y, e := Sample(x, 1, 1)
		if z != -1 || y.At()-x.At() != 5 || e != api.OK || x != kept {
			t.Fatal(z, y.At(), e)
		}
	}
}
