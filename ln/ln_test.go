package ln

import (
	"math"
	"math/big"
	"math/rand/v2"
	"slices"
	"testing"

	"chaff/api"
	"chaff/exp"
	"chaff/nat"
	"chaff/rat"
	"chaff/span"
)

// The tests reckon anew by math/big, which the program itself may not call.

func two(n int) *big.Int { return new(big.Int).Lsh(big.NewInt(1), uint(n)) }

// plus is v with a small number added.
func plus(v *big.Int, n int64) *big.Int { return new(big.Int).Add(v, big.NewInt(n)) }

func times(v, w *big.Int) *big.Int { return new(big.Int).Mul(v, w) }

// down and up are v over d, as whole numbers.
func down(v, d *big.Int) *big.Int { return new(big.Int).Div(v, d) }

func up(v, d *big.Int) *big.Int { return down(plus(new(big.Int).Add(v, d), -1), d) }

func toBig(a nat.Nat) *big.Int {
	v := new(big.Int)
	for _, w := range slices.Backward(a.Words()) {
		v.Or(v.Lsh(v, 64), new(big.Int).SetUint64(w))
	}
	return v
}

// over is n over d.
func over(n, d *big.Int) *big.Rat { return new(big.Rat).SetFrac(n, d) }

func integer(v *big.Int) *big.Rat { return new(big.Rat).SetInt(v) }

func fraction(t testing.TB, x *big.Rat) rat.Rat {
	t.Helper()
	a, e := rat.Parse(x.Num().String() + "/" + x.Denom().String())
	if e != api.OK {
		t.Fatal(x, e)
	}
	return a
}

// check holds a span against what it should be.
func check(t *testing.T, what string, got span.Span, e api.Errno, lo, hi *big.Int, p int) {
	t.Helper()
	if e != api.OK || toBig(got.Lo).Cmp(lo) != 0 || toBig(got.Hi).Cmp(hi) != 0 || got.P != p || !got.May() {
		t.Fatalf("%s: %v %v, not %v %v %v", what, got, e, lo, hi, p)
	}
}

// must is a span of a call that may not go wrong.
func must(t *testing.T) func(a span.Span, e api.Errno) span.Span {
	return func(a span.Span, e api.Errno) span.Span {
		t.Helper()
		if e != api.OK {
			t.Fatal(a, e)
		}
		return a
	}
}

// rowSums are both sums of the row of u by P q, as the chapter tells them.
func rowSums(u *big.Rat, q int) (lo, hi *big.Int) {
	n, d, one := times(u.Num(), two(q)), u.Denom(), two(q)
	low, high := down(n, d), up(n, d)
	lowSquare, highSquare := down(times(low, low), one), up(times(high, high), one)
	lo, hi = new(big.Int).Set(low), plus(high, 1)
	for j := int64(1); ; j++ {
		by := big.NewInt(2*j + 1)
		low, high = down(times(low, lowSquare), one), up(times(high, highSquare), one)
		lo.Add(lo, down(low, by))
		hi.Add(hi, up(high, by))
		if high.Cmp(big.NewInt(1)) <= 0 {
			return lo, hi
		}
	}
}

// sums are both ends of the logarithm of y by P q, as the chapter tells them, ahead of the cut.
func sums(y *big.Rat, q int) (lo, hi *big.Int) {
	k := 0
	for y.Cmp(integer(two(k+1))) >= 0 {
		k++
	}
	power := integer(two(k))
	u := new(big.Rat).Quo(new(big.Rat).Sub(y, power), new(big.Rat).Add(y, power))
	lo, hi = rowSums(u, q)
	low, high := rowSums(big.NewRat(1, 3), q)
	both := func(s, t *big.Int) *big.Int {
		return new(big.Int).Add(times(s, big.NewInt(2)), times(t, big.NewInt(int64(2*k))))
	}
	return both(lo, low), both(hi, high)
}

// told is what Ln should answer.
func told(y *big.Rat, p int) (lo, hi *big.Int) {
	lo, hi = sums(y, p+64)
	return down(lo, two(64)), up(hi, two(64))
}

// hold holds Ln against what the chapter tells.
func hold(t *testing.T, y *big.Rat, p int) {
	t.Helper()
	lo, hi := told(y, p)
	a, e := Ln(fraction(t, y), p)
	check(t, "Ln of "+y.String(), a, e, lo, hi, p)
}

// samples are y from 1 on: powers of 2 and their neighbours, and such as have as many bits as they may.
func samples() []*big.Rat {
	out := []*big.Rat{big.NewRat(3, 2), big.NewRat(4, 3), big.NewRat(5, 3), big.NewRat(10, 1), big.NewRat(355, 113), big.NewRat(1000001, 1000000)}
	for _, k := range []int{0, 1, 2, 3, 10, 63, 64, 65, 92, 500, 1000, 1023} {
		power := integer(two(k))
		out = append(out, power, integer(plus(two(k+1), -1)), integer(up(times(two(k), big.NewInt(3)), big.NewInt(2))))
	}
	most := plus(two(1024), -1)
	for _, k := range []int{1, 2, 64, 92, 512, 1000} {
		out = append(out, over(most, two(1024-k)), over(plus(two(1023), 1), two(1024-k)), over(plus(two(1023), -1), two(1023-k)))
	}
	return append(out, over(most, plus(most, -1)), over(plus(two(1023), 1), two(1023)), over(most, big.NewInt(3)), over(most, plus(two(1023), 1)))
}

var depths = []int{1, 2, 8, 63, 64, 65, 127, 128}

func TestExample(t *testing.T) {
	y, _ := rat.Of(2, 1)
	a, e := Ln(y, 8)
	check(t, "Ln of 2", a, e, big.NewInt(177), big.NewInt(178), 8)
}

// P5.1: the span, just as the chapter reckons it.
func TestAsTold(t *testing.T) {
	for _, y := range samples() {
		for _, p := range depths {
			hold(t, y, p)
		}
	}
	for n := range int64(300) {
		hold(t, big.NewRat(n+1, 1), 20)
		hold(t, big.NewRat(n+257, 256), 128)
	}
	r := rand.New(rand.NewPCG(5, 1))
	for range 300 {
		d := r.Int64N(1<<40) + 1
		hold(t, big.NewRat(d+r.Int64N(1<<62-d), d), 1+r.IntN(128))
	}
}

// fine is over how many bits the y are that are sought next to the cut.
const fine = 230

// near is the greatest y from 2^k on, and below twice that, of which the end, ahead of the cut, isn't above what it is held against.
func near(end func(y *big.Rat) *big.Int, against *big.Int, k int) *big.Int {
	n := two(fine)
	for i := range fine {
		next := new(big.Int).Add(n, two(fine-1-i))
		if end(scaled(next, k)).Cmp(against) <= 0 {
			n = next
		}
	}
	return n
}

// scaled is n over 2^fine, times 2^k.
func scaled(n *big.Int, k int) *big.Rat { return over(times(n, two(k)), two(fine)) }

// edges are where the cut goes to another number, between the logarithms of 2^k and twice that: the first, one amidst, and the last.
func edges(k, p int) []*big.Int {
	lo, _ := sums(integer(two(k)), p+64)
	_, hi := sums(scaled(plus(two(fine+1), -1), k), p+64)
	first, last := plus(down(lo, two(64)), 1), down(hi, two(64))
	amidst := down(new(big.Int).Add(first, last), big.NewInt(2))
	return []*big.Int{first, amidst, last}
}

// P5.1: y of which an end lies, ahead of the cut, next to where the cut goes to another number. There each member, and how it is rounded, tells: so does the 1 that is added to Hi, and where the row ends.
func TestNextToTheCut(t *testing.T) {
	for _, p := range []int{1, 2, 64, 128} {
		low := func(y *big.Rat) *big.Int { lo, _ := sums(y, p+64); return lo }
		high := func(y *big.Rat) *big.Int { _, hi := sums(y, p+64); return hi }
		for _, k := range []int{0, 1, 7, 300, 790} {
			for _, v := range edges(k, p) {
				edge := times(v, two(64))
				aboutEdge(t, near(low, plus(edge, -1), k), k, p)
				aboutEdge(t, near(high, edge, k), k, p)
			}
		}
	}
}

// aboutEdge holds what is about n, which is next to an edge, each further by as much as makes the sums greater by about 1.
func aboutEdge(t *testing.T, n *big.Int, k, p int) {
	t.Helper()
	step := down(n, two(p+64))
	at := func(by int64) *big.Rat { return scaled(new(big.Int).Add(n, times(step, big.NewInt(by))), k) }
	for by := int64(-5); by <= 6; by++ {
		if at(by).Cmp(integer(two(k))) >= 0 {
			hold(t, at(by), p)
		}
	}
	lo, hi := told(at(-5), p)
	low, high := told(at(6), p)
	if lo.Cmp(low) == 0 && hi.Cmp(high) == 0 {
		t.Fatal("no edge there:", n, k, p)
	}
}

// P5.1, P5.3: of 1 the span has 0.
func TestOne(t *testing.T) {
	one, _ := rat.Of(1, 1)
	for p := 1; p <= 128; p++ {
		a, e := Ln(one, p)
		check(t, "Ln of 1", a, e, new(big.Int), big.NewInt(1), p)
		if !a.Has(rat.Rat{}) {
			t.Fatal(p, a)
		}
	}
}

// Errors, each ahead of the next.
func TestWrong(t *testing.T) {
	most := plus(two(1024), -1)
	one := big.NewInt(1)
	within := []*big.Rat{integer(one), integer(two(1)), integer(most), over(most, plus(most, -1)), over(most, two(1023))}
	below := []*big.Rat{new(big.Rat), big.NewRat(1, 2), big.NewRat(999999, 1000000), over(one, most), over(plus(most, -1), most)}
	wide := []*big.Rat{
		integer(two(1024)), over(one, two(1024)), over(two(1024), most), over(most, two(1024)), over(plus(two(1024), 1), two(1024)),
		integer(plus(two(4096), -1)), over(one, plus(two(4096), -1)), over(plus(two(4096), -1), plus(two(4096), -2)),
	}
	refused := func(ys []*big.Rat, ps []int, want api.Errno) {
		t.Helper()
		for _, y := range ys {
			for _, p := range ps {
				a, e := Ln(fraction(t, y), p)
				if e != want || a.Lo.Words() != nil || a.Hi.Words() != nil || a.P != 0 {
					t.Fatalf("Ln of %v by %d: %v %v, not zero %v", y, p, a, e, want)
				}
			}
		}
	}
	refused(slices.Concat(within, below, wide), []int{0, -1, 129, 1024, math.MinInt, math.MaxInt}, api.ErrRange)
	refused(wide, depths, api.ErrLimit)
	refused(below, depths, api.ErrRange)
	for _, y := range within {
		for _, p := range depths {
			must(t)(Ln(fraction(t, y), p))
		}
	}
}

// known are logarithms times 2^128, down, reckoned elsewhere.
func known() map[string]string {
	return map[string]string{
		"2":                                "235865763225513294137944142764154484399",
		"3":                                "373838389916413667603494184660470824117",
		"10":                               "783529105480883066805338482703447369891",
		"3/2":                              "137972626690900373465550041896316339718",
		"4/3":                              "97893136534612920672394100867838144680",
		"355/113":                          "389531423936595924153013612994012992797",
		"65536/65535":                      "5192336473019064645646483631331269",
		"1000001/1000000":                  "340282196779868430364712664891801",
		"18446744073709551616":             "15095408846432850824828425136905887001552",
		"123456789012345678901234567890/7": "22131889795843160905134064178585283540978",
		integer(two(1023)).RatString():     "241290675779700099903116858047730037540436",
	}
}

// P5.2: the logarithm is in its span.
func TestKnown(t *testing.T) {
	for text, want := range known() {
		y, _ := new(big.Rat).SetString(text)
		n, _ := new(big.Int).SetString(want, 10)
		for p := 1; p <= 128; p++ {
			lo := down(n, two(128-p))
			a, e := Ln(fraction(t, y), p)
			check(t, "Ln of "+text, a, e, lo, plus(lo, 1), p)
		}
	}
}

// power are two fractions between which e to the v over 2^p is, far nearer to each other than the ends of two spans.
func power(v *big.Int, p int) (lo, hi *big.Rat) {
	if v.Sign() == 0 {
		return big.NewRat(1, 1), big.NewRat(1, 1)
	}
	x := int(up(v, two(p)).Int64())
	q := 4*x + 400
	term, sum, n := two(q), two(q), int64(0)
	for k := int64(1); term.Sign() > 0; k++ {
		term = down(times(term, v), times(two(p), big.NewInt(k)))
		sum.Add(sum, term)
		n = k
	}
	// Each of the terms is rounded by less than e to the x in all, which is below 4 to the x.
	miss := times(two(2*x+2), big.NewInt(n))
	return over(sum, two(q)), over(miss.Add(miss, sum), two(q))
}

// P5.2: e to Lo isn't above y, e to Hi not below it, and both ends are near.
func TestLogarithmIsIn(t *testing.T) {
	for _, y := range samples() {
		r := fraction(t, y)
		for _, p := range []int{1, 8, 64, 128} {
			a := must(t)(Ln(r, p))
			_, from := power(toBig(a.Lo), p)
			to, _ := power(toBig(a.Hi), p)
			apart := new(big.Int).Sub(toBig(a.Hi), toBig(a.Lo))
			if from.Cmp(y) > 0 || to.Cmp(y) < 0 || apart.Cmp(big.NewInt(2)) > 0 {
				t.Fatal(y, p, a)
			}
		}
	}
}

// P5.3: the span of a product meets the sum of both spans.
func TestProductsMeetSums(t *testing.T) {
	r := rand.New(rand.NewPCG(5, 3))
	ok := must(t)
	some := samples()
	for range 2000 {
		x, y := some[r.IntN(len(some))], some[r.IntN(len(some))]
		product := fraction(t, new(big.Rat).Mul(x, y))
		if wide(product) {
			continue
		}
		p := 1 + r.IntN(128)
		sum := ok(ok(Ln(fraction(t, x), p)).Add(ok(Ln(fraction(t, y), p))))
		whole := ok(Ln(product, p))
		if sum.Lo.Cmp(whole.Hi) > 0 || whole.Lo.Cmp(sum.Hi) > 0 {
			t.Fatal(x, y, p, sum, whole)
		}
	}
}

// P5.3: e to what is in the span comes to y, nearly.
func TestPowersOfLogarithms(t *testing.T) {
	ok := must(t)
	for _, y := range samples() {
		if y.Cmp(integer(two(92))) >= 0 {
			continue
		}
		for _, p := range []int{8, 20, 64, 128} {
			a := ok(Ln(fraction(t, y), p))
			from := ok(exp.Exp(fraction(t, over(toBig(a.Lo), two(p))), 128))
			to := ok(exp.Exp(fraction(t, over(toBig(a.Hi), two(p))), 128))
			low, high := over(toBig(from.Lo), two(128)), over(toBig(to.Hi), two(128))
			// Both ends of the span are at most 2 apart, and e to so little is below 1 and twice that.
			far := new(big.Rat).Mul(high, over(big.NewInt(4), two(p)))
			far.Add(far, over(big.NewInt(4), two(128)))
			if low.Cmp(y) > 0 || high.Cmp(y) < 0 || new(big.Rat).Sub(high, low).Cmp(far) > 0 {
				t.Fatal(y, p, a)
			}
		}
	}
}

// P5.3: the logarithm rises with y, of near ones, too, and over a power of 2.
func TestRises(t *testing.T) {
	ok := must(t)
	rising := func(p int, bits int, ys func(n int64) *big.Rat) {
		t.Helper()
		last := ok(Ln(fraction(t, ys(0)), p))
		for n := int64(1); n <= 200; n++ {
			next := ok(Ln(fraction(t, ys(n)), p))
			if next.Lo.Cmp(last.Lo) < 0 || next.Hi.Cmp(last.Hi) < 0 || p > bits+3 && next.Lo.Cmp(last.Hi) <= 0 {
				t.Fatal(n, p, last, next)
			}
			last = next
		}
	}
	for _, p := range []int{1, 12, 20, 64, 128} {
		rising(p, 8, func(n int64) *big.Rat { return big.NewRat(n+1, 1) })
		rising(p, 20, func(n int64) *big.Rat { return big.NewRat(1<<20+n, 1<<20) })
		for _, k := range []int{1, 10, 500, 1022} {
			about := over(plus(two(400), -100), two(400))
			rising(p, 400, func(n int64) *big.Rat {
				y := new(big.Rat).Add(about, over(big.NewInt(n), two(400)))
				return y.Mul(y, integer(two(k)))
			})
		}
	}
}

// What is handed in is not changed, what is handed out is new, and the same call answers the same.
func TestNothingIsShared(t *testing.T) {
	y, _ := rat.Of(50, 3)
	a, _ := Ln(y, 20)
	for _, n := range []nat.Nat{a.Lo, a.Hi, y.Num(), y.Den()} {
		n.Words()[0] = 99
	}
	for range 2 {
		hold(t, big.NewRat(50, 3), 20)
	}
	if y.String() != "50/3" {
		t.Fatal(y)
	}
}
