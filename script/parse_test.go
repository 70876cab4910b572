package script

import (
	"fmt"
	"math"
	"math/rand/v2"
	"reflect"
	"slices"
	"strings"
	"testing"

	"chaff/api"
	"chaff/news"
)

func met(value, times uint32) news.Row { return news.Row{Value: value, Times: times} }

// bare is steps without the room that their lists may have, and with nil for lists that are empty.
func bare(steps []Step) []Step {
	var out []Step
	for _, s := range steps {
		s.Rows, s.Keep = append([]news.Row(nil), s.Rows...), append([]bool(nil), s.Keep...)
		out = append(out, s)
	}
	return out
}

// parses looks whether a script has these steps.
func parses(t testing.TB, s string, want ...Step) {
	t.Helper()
	got, at, e := Parse(s)
	if e != api.OK || at != 0 || !reflect.DeepEqual(bare(got), bare(want)) {
		t.Fatalf("%.80q: %+v, %d, %v, not %+v", s, got, at, e, want)
	}
}

// fails looks whether a script is wrong, and where.
func fails(t testing.TB, s string, at int, e api.Errno) {
	t.Helper()
	if steps, i, f := Parse(s); len(steps) != 0 || i != at || f != e {
		t.Fatalf("%.80q: %+v, %d, %v, not %d, %v", s, steps, i, f, at, e)
	}
}

// P30.1: the steps of all kinds of lines, each at its edges, and each one's line.
func TestParse(t *testing.T) {
	for line, want := range map[string]Step{
		"push 0 -":  {Word: "push"},
		"push 7 00": {Word: "push", A: 7, Bytes: "\x00"},
		"push 18446744073709551615 0123456789abcdefff": {Word: "push", A: math.MaxUint64, Bytes: "\x01\x23\x45\x67\x89\xab\xcd\xef\xff"},
		"round 0 0 0 -":  {Word: "round"},
		"round 1 2 3 61": {Word: "round", A: 1, B: 2, C: 3, Bytes: "a"},
		"round 18446744073709551615 4294967295 255 7a7b": {Word: "round", A: math.MaxUint64, B: math.MaxUint32, C: 255, Bytes: "z{"},
		"report 0":                        {Word: "report"},
		"report 4294967295":               {Word: "report", A: math.MaxUint32},
		"report 10 0:0":                   {Word: "report", A: 10, Rows: []news.Row{{}}},
		"report 1 4294967295:4294967295":  {Word: "report", A: 1, Rows: []news.Row{{Value: math.MaxUint32, Times: math.MaxUint32}}},
		"report 1 9:8 9:8 2:30 0:1 100:7": {Word: "report", A: 1, Rows: []news.Row{met(9, 8), met(9, 8), met(2, 30), met(0, 1), met(100, 7)}},
		"crash -":                         {Word: "crash"},
		"crash 0":                         {Word: "crash", Keep: []bool{false}},
		"crash 1":                         {Word: "crash", Keep: []bool{true}},
		"crash 011000":                    {Word: "crash", Keep: []bool{false, true, true, false, false, false}},
		"arm 0":                           {Word: "arm"},
		"arm 1048576":                     {Word: "arm", A: api.MaxCount},
		"status":                          {Word: "status"},
	} {
		parses(t, line, want)
		parses(t, "\n"+line+"\n\n", want)
		parses(t, line+"\n"+line, want, want)
		if got := want.Line(); got != line {
			t.Errorf("%q, not %q", got, line)
		}
	}
}

// P30.1: a script of no lines, and of empty ones.
func TestEmpty(t *testing.T) {
	parses(t, "")
	parses(t, "\n")
	parses(t, "\n\n\n")
	parses(t, "\n\nstatus\n\n\narm 1", Step{Word: "status"}, Step{Word: "arm", A: 1})
}

// words that lines don't begin with.
var strangers = []string{
	"walk", "Push", "PUSH", "pus", "pushh", "rounds", "reports", "reportt", "crashs", "arms", "statu", "status\r", "\rstatus", "stätus", "-", "0", ".", "\x00", "\xff", "\t", "push\t1", "push,1", "round:", "none", "#",
}

// P30.1: ErrName, where the first word is none of these, whatever is behind it; ErrForm else.
func TestName(t *testing.T) {
	for _, word := range strangers {
		for _, behind := range []string{"", " ", " 1", " 1 61", " 1 2 3 61", " -", " 01", "  ", " 1:1"} {
			fails(t, word+behind, 0, api.ErrName)
		}
	}
	// A line that begins with a blank has an empty word first.
	for _, line := range []string{" ", "  ", " status", " push 1 61", "  arm 1", " 1"} {
		fails(t, line, 0, api.ErrName)
	}
}

// P30.1: ErrForm, where a line has too few words, too many, or others than its own.
func TestForm(t *testing.T) {
	for _, line := range []string{
		"push", "push ", "push 1", "push 1 ", "push 61", "push - -", "push 1 61 ", "push 1  61", "push  1 61", "push 1 61 61", "push 1 6 1", "push 1\t61", "push 1 61\r", "push x 61", "push 1 -1", "push -1 61",
		"round", "round ", "round 1", "round 1 2", "round 1 2 3", "round 1 2 3 ", "round 1 2 61", "round 1 2 3 61 ", "round 1 2  3 61", "round 1 2 3 61 -", "round 1 2 3 61 61", "round - 2 3 61", "round 1 - 3 61", "round 1 2 - 61", "round 1 2 3 4 61",
		"report", "report ", "report -", "report x", "report 1 ", "report 1  1:1", "report 1 -", "report 1 1", "report 1 :", "report 1 1:", "report 1 :1", "report 1 1:1:1", "report 1 1::1", "report 1 1:1:", "report 1 :1:1",
		"report 1 1:1 ", "report 1 1:1  2:1", "report 1 1:1,2:1", "report 1 1: 1", "report 1 1 :1", "report 1 2:1 1", "report 1 1 2:1", "report 1:1", "report 1:1 1:1", "report 1 1:1 x:1", "report 1 1:1 2:x 3:1", "report 1 1.1",
		"crash", "crash ", "crash 2", "crash --", "crash 0-", "crash -0", "crash 01 ", "crash 0 1", "crash  01", "crash 012", "crash 210", "crash /", "crash O", "crash 01-", "crash - -", "crash - 01", "crash \x00", "crash 0\xff",
		"arm", "arm ", "arm -", "arm x", "arm 1 ", "arm  1", "arm 1 1", "arm 0 -", "arm -1", "arm 1048577", "arm 18446744073709551615", "arm 18446744073709551616",
		"status ", "status 1", "status -", "status  ", "status status",
	} {
		fails(t, line, 0, api.ErrForm)
	}
}

// places are lines with a place for a number, and the greatest that it may be.
var places = []struct {
	line string
	most uint64
}{
	{"push # 61", math.MaxUint64}, {"round # 2 3 61", math.MaxUint64}, {"round 1 # 3 -", math.MaxUint32}, {"round 1 2 # 61", math.MaxUint8},
	{"report #", math.MaxUint32}, {"report # 1:2", math.MaxUint32}, {"report 1 #:2", math.MaxUint32}, {"report 1 2:#", math.MaxUint32}, {"report 1 2:1 #:2 3:2", math.MaxUint32}, {"report 1 2:1 3:# 4:2", math.MaxUint32},
	{"arm #", 1 << 20},
}

// P30.1: numbers are decimal digits, without a nought ahead of others, up to the greatest.
func TestNumbers(t *testing.T) {
	for _, p := range places {
		put := func(word string) string { return strings.Replace(p.line, "#", word, 1) }
		for _, n := range []uint64{0, 1, 9, 10, 99, 100, 200, 255, p.most / 2, p.most/10*10 - 1, p.most - 1, p.most} {
			s, at, e := Parse(put(fmt.Sprint(n)))
			if e != api.OK || at != 0 || len(s) != 1 || s[0].Line() != put(fmt.Sprint(n)) {
				t.Fatal(p.line, n, s, e)
			}
			fails(t, put(fmt.Sprint("0", n)), 0, api.ErrForm)
			fails(t, put(fmt.Sprint("00", n)), 0, api.ErrForm)
			fails(t, put(fmt.Sprint("+", n)), 0, api.ErrForm)
			fails(t, put(fmt.Sprint("-", n)), 0, api.ErrForm)
		}
		above := "18446744073709551616"
		if p.most < math.MaxUint64 {
			above = fmt.Sprint(p.most + 1)
		}
		for _, word := range []string{
			above, above + "0", "1" + above, "99999999999999999999", "18446744073709551626", "100000000000000000000", "340282366920938463463374607431768211456", strings.Repeat("9", 500), strings.Repeat("0", 30), "1" + strings.Repeat("0", 400),
			"", "x", "1x", "x1", "0x1", "0b1", "0o1", "1_0", "1e1", "1.0", "1.", ".1", "a", "ff", "１", "٣", "1\x00", "\x001", "1\r", "1,0", "'1'", "--1", "inf", "NaN", "1-", "/", ";",
		} {
			fails(t, put(word), 0, api.ErrForm)
		}
	}
}

// P30.1: HEX are pairs of the digits 0 to 9 and a to f; of no bytes -.
func TestHex(t *testing.T) {
	for _, c := range []struct {
		ahead string
		step  Step
	}{{"push 1 ", Step{Word: "push", A: 1}}, {"round 1 2 3 ", Step{Word: "round", A: 1, B: 2, C: 3}}} {
		with := func(s string) Step {
			out := c.step
			out.Bytes = s
			return out
		}
		for b := range 256 {
			s := string([]byte{byte(b)})
			parses(t, c.ahead+fmt.Sprintf("%x", s), with(s))
			parses(t, c.ahead+fmt.Sprintf("%x", s+"z"+s), with(s+"z"+s))
			switch {
			case s == " " || s == "\n":
				// What parts words, and lines.
			case strings.Contains("0123456789abcdef", s):
				fails(t, c.ahead+s, 0, api.ErrForm)
				fails(t, c.ahead+"61"+s, 0, api.ErrForm)
			default:
				for _, word := range []string{s + s, "6" + s, s + "6", "61" + s + "6", "616" + s, "6" + s + "61"} {
					fails(t, c.ahead+word, 0, api.ErrForm)
				}
			}
		}
		for _, word := range []string{"", "6", "616", "FF", "fF", "0x61", "6-", "-6", "--", "-61", "61-", "0g", "g0", "6１"} {
			fails(t, c.ahead+word, 0, api.ErrForm)
		}
		long := strings.Repeat("\x00\x7f\x80\xff", 8000)
		parses(t, c.ahead+fmt.Sprintf("%x", long), with(long))
	}
}

// P30.1: beside an error is the number of the first line that is wrong, empty ones counted, and that line's error; and no steps.
func TestFirstWrong(t *testing.T) {
	for at := range 12 {
		for _, good := range []string{"\n", "status\n", "push 1 61\n", "report 1 1:1\n", "\nstatus"} {
			ahead := strings.Repeat(good, at)
			lines := strings.Count(ahead, "\n")
			if good == "\nstatus" {
				// The line that is wrong is behind the last of these.
				ahead, lines = ahead+"\n", lines+1
			}
			for _, behind := range []string{"", "\n", "\nstatus", "\nwalk", "\npush 1", "\n\n\nwalk\n"} {
				fails(t, ahead+"walk"+behind, lines, api.ErrName)
				fails(t, ahead+"walk 1"+behind, lines, api.ErrName)
				fails(t, ahead+" "+behind, lines, api.ErrName)
				fails(t, ahead+"push 1"+behind, lines, api.ErrForm)
				fails(t, ahead+"report 1 1"+behind, lines, api.ErrForm)
				fails(t, ahead+"status "+behind, lines, api.ErrForm)
			}
		}
	}
	fails(t, strings.Repeat("\n", 65534)+"x", 65534, api.ErrName)
	fails(t, strings.Repeat("\n", 65535)+"x", 65535, api.ErrName)
}

// P30.1: a script of 65536 bytes may be, one of more may not, whatever is in it.
func TestLong(t *testing.T) {
	const most = 65536
	fill := func(s string, n int) string { return s + strings.Repeat("\n", n-len(s)) }
	step := Step{Word: "status"}
	parses(t, fill("status", most), step)
	parses(t, fill("", most))
	for _, s := range []string{"status", "walk", "push 1", ""} {
		fails(t, fill(s, most+1), 0, api.ErrLong)
		fails(t, strings.Repeat("\n", 5)+fill(s, most+1), 0, api.ErrLong)
		fails(t, fill(s, 5*most), 0, api.ErrLong)
	}
	// All of the bytes are one line's.
	keep := strings.Repeat("01", most)[:most-len("crash ")]
	steps, _, e := Parse("crash " + keep)
	if e != api.OK || len(steps) != 1 || len(steps[0].Keep) != len(keep) || steps[0].Keep[0] || !steps[0].Keep[1] || steps[0].Line() != "crash "+keep {
		t.Fatal(e)
	}
	fails(t, "crash "+keep+"0", 0, api.ErrLong)
	rows := "report 7" + strings.Repeat(" 1:2", (most-len("report 7"))/4)
	steps, _, e = Parse(rows)
	if e != api.OK || len(steps) != 1 || len(steps[0].Rows) != 16382 || steps[0].Line() != rows {
		t.Fatal(e)
	}
	// Of as many lines as there may be.
	if steps, _, e := Parse(strings.Repeat("arm 1\n", most/6)); e != api.OK || len(steps) != most/6 {
		t.Fatal(e)
	}
}

// some is a random step, and its line.
func some(r *rand.Rand) (Step, string) {
	number := func(bits int) uint64 { return r.Uint64() >> (64 - bits) >> r.IntN(bits+1) }
	s := Step{Word: []string{"push", "round", "report", "crash", "arm", "status"}[r.IntN(6)]}
	text := ""
	for range r.IntN(4) * r.IntN(9) {
		text += string([]byte{byte(r.Uint32())})
	}
	switch s.Word {
	case "push":
		s.A, s.Bytes = number(64), text
	case "round":
		s.A, s.B, s.C, s.Bytes = number(64), number(32), number(8), text
	case "report":
		s.A = number(32)
		for range r.IntN(4) * r.IntN(9) {
			s.Rows = append(s.Rows, news.Row{Value: uint32(number(32)), Times: uint32(number(32))})
		}
	case "crash":
		for range r.IntN(4) * r.IntN(9) {
			s.Keep = append(s.Keep, r.IntN(2) == 0)
		}
	case "arm":
		s.A = min(number(21), 1<<20)
	}
	return s, written(s)
}

// written is a step's line, as the chapter's table tells it.
func written(s Step) string {
	hex := fmt.Sprintf("%x", s.Bytes)
	if hex == "" {
		hex = "-"
	}
	switch s.Word {
	case "push":
		return fmt.Sprintf("push %d %s", s.A, hex)
	case "round":
		return fmt.Sprintf("round %d %d %d %s", s.A, s.B, s.C, hex)
	case "report":
		out := fmt.Sprintf("report %d", s.A)
		for _, r := range s.Rows {
			out += fmt.Sprintf(" %d:%d", r.Value, r.Times)
		}
		return out
	case "crash":
		bits := ""
		for _, k := range s.Keep {
			bits += map[bool]string{false: "0", true: "1"}[k]
		}
		if bits == "" {
			bits = "-"
		}
		return "crash " + bits
	case "arm":
		return fmt.Sprintf("arm %d", s.A)
	}
	return s.Word
}

// P30.3, P30.1: what is written is parsed as it was, one line and many; what is parsed is written as it was.
func TestBack(t *testing.T) {
	r := rand.New(rand.NewPCG(30, 1))
	for range 3000 {
		var want []Step
		script := ""
		for range 1 + r.IntN(12) {
			s, line := some(r)
			if s.Line() != line {
				t.Fatalf("%q, not %q", s.Line(), line)
			}
			parses(t, line, s)
			want = append(want, s)
			script += strings.Repeat("\n", r.IntN(3)*r.IntN(2)) + line + "\n"
		}
		parses(t, script, want...)
	}
}

// P30.1, P30.3: of lines that a few bytes were changed in, what may be is written as it was, and what may not be is ErrName or ErrForm by its first word.
func TestChanged(t *testing.T) {
	r := rand.New(rand.NewPCG(30, 2))
	signs := "0123456789abcdefg-: \tA+xpush"
	may := 0
	for range 60000 {
		_, line := some(r)
		b := []byte(line)
		for range 1 + r.IntN(2) {
			at, c := r.IntN(len(b)), signs[r.IntN(len(signs))]
			switch r.IntN(3) {
			case 0:
				b[at] = c
			case 1:
				b = slices.Insert(b, at, c)
			case 2:
				if b = slices.Delete(b, at, at+1); len(b) == 0 {
					b = []byte{c}
				}
			}
		}
		line = string(b)
		word, _, _ := strings.Cut(line, " ")
		steps, at, e := Parse(line)
		switch {
		case !slices.Contains([]string{"push", "round", "report", "crash", "arm", "status"}, word):
			if e != api.ErrName || len(steps) != 0 || at != 0 {
				t.Fatalf("%q: %v, %v", line, steps, e)
			}
		case e == api.OK:
			may++
			if len(steps) != 1 || steps[0].Line() != line || written(steps[0]) != line {
				t.Fatalf("%q: %v", line, steps)
			}
		case e != api.ErrForm || len(steps) != 0 || at != 0:
			t.Fatalf("%q: %v, %v", line, steps, e)
		}
	}
	if may < 5000 {
		t.Fatal("the test's own: too few,", may)
	}
}

// R1: of steps that Parse doesn't answer nothing is promised of the line, but that the call ends and doesn't panic.
func TestOtherSteps(t *testing.T) {
	full := Step{A: math.MaxUint64, B: math.MaxUint64, C: math.MaxUint64, Bytes: "\xff\x00", Rows: []news.Row{met(1, 2)}, Keep: []bool{true}}
	for _, word := range append([]string{"", "push", "round", "report", "crash", "arm", "status"}, strangers...) {
		full.Word = word
		full.Line()
		Step{Word: word}.Line()
	}
}

// R3: steps share no lists, with each other or with what another call answers; a step's line leaves it as it was.
func TestNothingIsShared(t *testing.T) {
	const script = "report 1 1:2 3:4\nreport 1 1:2 3:4\ncrash 0101\ncrash 0101\npush 1 6161\n"
	first, _, _ := Parse(script)
	want, _, _ := Parse(script)
	for i := range first {
		for j := range first {
			if i != j && (overlap(first[i].Rows, first[j].Rows) || overlap(first[i].Keep, first[j].Keep)) {
				t.Fatal(i, j)
			}
		}
		first[i].Line()
		if !reflect.DeepEqual(bare(first[i:i+1]), bare(want[i:i+1])) {
			t.Fatal("Line:", first[i])
		}
		clear(first[i].Rows[:cap(first[i].Rows)])
		clear(first[i].Keep[:cap(first[i].Keep)])
	}
	clear(first[:cap(first)])
	parses(t, script, bare(want)...)
	if want[0].Line() != "report 1 1:2 3:4" || want[3].Line() != "crash 0101" {
		t.Fatal(want)
	}
}

// overlap tells whether two lists share memory.
func overlap[T any](a, b []T) bool {
	return cap(a) > 0 && cap(b) > 0 && (&a[:cap(a)][cap(a)-1] == &b[:cap(b)][cap(b)-1])
}
