package tape

import (
	"math"
	"math/rand/v2"
	"strconv"
	"strings"
	"testing"

	"chaff/api"
)

// The tests hold tapes against their bits written out as digits, which the program itself does not do.

// digits are the bits of a text, of each byte the highest one first.
func digits(s string) string {
	var out strings.Builder
	for _, b := range []byte(s) {
		two := strconv.FormatUint(uint64(b), 2)
		out.WriteString(strings.Repeat("0", 8-len(two)) + two)
	}
	return out.String()
}

// number is what digits come to; of none 0.
func number(t testing.TB, digits string) uint64 {
	t.Helper()
	if digits == "" {
		return 0
	}
	v, err := strconv.ParseUint(digits, 2, 64)
	if err != nil {
		t.Fatal(err)
	}
	return v
}

// some is a text of any bytes.
func some(r *rand.Rand, n int) string {
	out := make([]byte, n)
	for i := range out {
		out[i] = byte(r.Uint32())
	}
	return string(out)
}

// stands looks whether a tape of a text is at a place, by what it tells and by what is read of it.
func stands(t *testing.T, x Tape, s string, at int) {
	t.Helper()
	if x.At() != at || x.Left() != 8*len(s)-at {
		t.Fatal("At", x.At(), "Left", x.Left(), "not", at, 8*len(s)-at)
	}
	all := digits(s)
	n := min(64, len(all)-at)
	if v, _, e := x.Read(n); e != api.OK || v != number(t, all[at:at+n]) {
		t.Fatal("behind it", v, e, "not", all[at:at+n])
	}
}

// behind is the tape behind n bits, read one by one.
func behind(t testing.TB, s string, n int) Tape {
	t.Helper()
	x := New(s)
	for range n {
		var e api.Errno
		if _, x, e = x.Read(1); e != api.OK {
			t.Fatal(e)
		}
	}
	return x
}

func TestExample(t *testing.T) {
	a, x, e := New("\xa5").Read(4)
	b, y, f := x.Read(4)
	if a != 10 || e != api.OK || b != 5 || f != api.OK {
		t.Fatal(a, e, b, f)
	}
	stands(t, y, "\xa5", 8)
}

// P7.1: a tape at its beginning; the zero one has no bits.
func TestNew(t *testing.T) {
	for _, s := range []string{"", "\x00", "\xff", "\x80\x01", "chaff", strings.Repeat("\x5a", 1000)} {
		stands(t, New(s), s, 0)
	}
	stands(t, Tape{}, "", 0)
	if _, x, e := (Tape{}).Read(1); e != api.ErrBits || x != (Tape{}) {
		t.Fatal(e)
	}
	if _, x, e := (Tape{}).Bytes(1); e != api.ErrBits || x != (Tape{}) {
		t.Fatal(e)
	}
	if v, x, e := (Tape{}).Read(0); v != 0 || e != api.OK || x != (Tape{}) {
		t.Fatal(v, e)
	}
	if s, x, e := (Tape{}).Bytes(0); s != "" || e != api.OK || x != (Tape{}) {
		t.Fatal(s, e)
	}
}

// P7.1: each number of bits, from each place.
func TestRead(t *testing.T) {
	s := some(rand.New(rand.NewPCG(7, 1)), 20)
	for _, s := range []string{s, strings.Repeat("\xff", 20), strings.Repeat("\x00", 20), "\x80" + strings.Repeat("\x00", 18) + "\x01"} {
		all := digits(s)
		for at := 0; at <= len(all); at++ {
			x := behind(t, s, at)
			for n := 0; n <= 64; n++ {
				v, y, e := x.Read(n)
				if at+n > len(all) {
					if v != 0 || e != api.ErrBits || y != x {
						t.Fatal(at, n, v, e)
					}
					continue
				}
				if v != number(t, all[at:at+n]) || e != api.OK {
					t.Fatal(at, n, v, e)
				}
				stands(t, y, s, at+n)
				stands(t, x, s, at)
			}
		}
	}
}

// P7.1: each number of bytes, from each place.
func TestBytes(t *testing.T) {
	s := some(rand.New(rand.NewPCG(7, 2)), 12)
	all := digits(s)
	for at := 0; at <= len(all); at++ {
		x := behind(t, s, at)
		for n := 0; n <= 14; n++ {
			got, y, e := x.Bytes(n)
			if at+8*n > len(all) {
				if got != "" || e != api.ErrBits || y != x {
					t.Fatal(at, n, got, e)
				}
				continue
			}
			if digits(got) != all[at:at+8*n] || e != api.OK {
				t.Fatal(at, n, got, e)
			}
			stands(t, y, s, at+8*n)
			stands(t, x, s, at)
		}
	}
}

// P7.1: how many can't be read, ahead of too few being left.
func TestWrong(t *testing.T) {
	for _, s := range []string{"", "a", "twelve bytes", strings.Repeat("z", 100)} {
		for at := 0; at <= min(9, 8*len(s)); at++ {
			x := behind(t, s, at)
			for _, n := range []int{-1, 65, 66, 128, 256, 320, math.MinInt, math.MinInt + 1, math.MaxInt, -64, 1 << 32} {
				if v, y, e := x.Read(n); v != 0 || e != api.ErrRange || y != x {
					t.Fatal(s, at, n, v, e)
				}
			}
			for _, n := range []int{-1, -8, math.MinInt, math.MinInt / 8, math.MinInt/8 - 1} {
				if v, y, e := x.Bytes(n); v != "" || e != api.ErrRange || y != x {
					t.Fatal(s, at, n, v, e)
				}
			}
			// Times 8 these are beyond the ends of an int, and some come to a small one there.
			for _, n := range []int{math.MaxInt, math.MaxInt / 8, math.MaxInt/8 + 1, math.MaxInt/4 + 1, math.MaxInt/4 + 2, math.MaxInt/2 + 1, math.MaxInt/2 + 2, len(s) + 1} {
				if v, y, e := x.Bytes(n); v != "" || e != api.ErrBits || y != x {
					t.Fatal(s, at, n, v, e)
				}
			}
		}
	}
}

// P7.2: what is read one by one is what is read at once.
func TestOneByOne(t *testing.T) {
	r := rand.New(rand.NewPCG(7, 3))
	for range 300 {
		s := some(r, r.IntN(40))
		all := digits(s)
		x := New(s)
		var got strings.Builder
		for x.Left() > 0 {
			if n := r.IntN(x.Left()/8 + 1); r.IntN(4) == 0 {
				part, y, e := x.Bytes(n)
				if e != api.OK {
					t.Fatal(e)
				}
				got.WriteString(digits(part))
				x = y
				continue
			}
			n := r.IntN(min(64, x.Left()) + 1)
			v, y, e := x.Read(n)
			if e != api.OK || n < 64 && v>>n != 0 {
				t.Fatal(v, n, e)
			}
			got.WriteString(digitsOf(v, n))
			x = y
		}
		if got.String() != all {
			t.Fatal(got.String(), all)
		}
		stands(t, x, s, len(all))
	}
}

// digitsOf is a number as n digits.
func digitsOf(v uint64, n int) string {
	if n == 0 {
		return ""
	}
	two := strconv.FormatUint(v, 2)
	return strings.Repeat("0", n-len(two)) + two
}

// P7.2: a longer text begins with the same bits.
func TestLonger(t *testing.T) {
	r := rand.New(rand.NewPCG(7, 4))
	for range 300 {
		s := some(r, r.IntN(20))
		at := r.IntN(8*len(s) + 1)
		x, y := behind(t, s, at), behind(t, s+some(r, 1+r.IntN(20)), at)
		n := r.IntN(min(64, x.Left()) + 1)
		v, x2, e := x.Read(n)
		w, y2, f := y.Read(n)
		if v != w || e != api.OK || f != api.OK || x2.At() != y2.At() {
			t.Fatal(s, at, n, v, w)
		}
		n = r.IntN(x.Left()/8 + 1)
		a, x2, e := x.Bytes(n)
		b, y2, f := y.Bytes(n)
		if a != b || e != api.OK || f != api.OK || x2.At() != y2.At() {
			t.Fatal(s, at, n, a, b)
		}
	}
}

// P7.1: a tape stays as it was, whatever is read of it, in whatever order.
func TestStays(t *testing.T) {
	s := "stays as it was"
	x := behind(t, s, 13)
	kept := x
	for range 2 {
		x.Read(64)
		x.Read(65)
		x.Bytes(9)
		x.Bytes(100)
		stands(t, x, s, 13)
		if x != kept {
			t.Fatal("it was changed")
		}
	}
}
