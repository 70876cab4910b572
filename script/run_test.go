package script

import (
	"encoding/binary"
	"fmt"
	"math"
	"math/rand/v2"
	"reflect"
	"slices"
	"strings"
	"testing"

	"chaff/api"
	"chaff/audit"
	"chaff/disk"
	"chaff/govern"
	"chaff/noise"
	"chaff/plan"
	"chaff/status"
	"chaff/tape"
)

func ratio(n, d uint32) plan.Ratio { return plan.Ratio{Num: n, Den: d} }

func cost(a, b uint32) plan.Cost { return plan.Cost{Eps: ratio(a, b), Delta: ratio(1, 1)} }

// small is a plan of two contacts and two classes, of Eps 1/4 and 2/4, of which a contact may use five quarters, and all two. By it a report of a count of 3 is accepted, one of 0 rejected, one of 2 unclear.
func small() plan.Plan {
	return plan.Plan{
		Prec: 8, Length: 2, Queue: 3, Global: cost(2, 1), Contact: cost(5, 4), Slack: ratio(1, 9), Tau: ratio(159, 256), Noise: noise.Law{Num: 1, Den: 2, Mu: 3},
		Classes: []plan.Cost{{Eps: ratio(1, 4), Delta: ratio(0, 1)}, {Eps: ratio(2, 4), Delta: ratio(0, 1)}}, Contacts: []uint64{10, 20},
	}
}

// The tests' disks have so many sectors, and slots of so many.
const (
	size = 13
	n    = 4
)

// says looks what a script says, by small.
func says(t testing.TB, script string, want ...string) {
	t.Helper()
	if got := Run(script, size, n, small()); !slices.Equal(got, want) {
		t.Fatalf("%.200q: %.600q, not %.600q", script, got, want)
	}
}

// The chapter's example.
func TestExample(t *testing.T) {
	says(t, "status", "round 0", "ledger open", "why none", "waiting 0", "all 0/1 0/1", "contact 0 0/1 0/1", "contact 1 0/1 0/1")
}

// P30.2: of no lines nothing is said.
func TestNothing(t *testing.T) {
	says(t, "")
	says(t, "\n\n\n")
}

// P30.2: of a push its error's word.
func TestRunPush(t *testing.T) {
	says(t, "push 10 6161\npush 10 0000\npush 10 ffff\npush 10 6161\npush 20 -\npush 20 61\npush 20 616161\npush 20 6161\npush 30 6161\npush 0 -\npush 18446744073709551615 6161",
		"ok", "ok", "ok", "full", "form", "form", "form", "ok", "name", "name", "name")
}

// P30.2: of a round refused and why, or real, or cover, and the envelope.
func TestRunRound(t *testing.T) {
	ahead := "report 1 3:1\npush 10 00ff\npush 20 6162\npush 20 6364\n"
	said := []string{"accept", "ok", "ok", "ok"}
	with := func(lines string, want ...string) {
		t.Helper()
		says(t, ahead+lines, append(slices.Clone(said), want...)...)
	}
	with("round 1 1 0 7a7a", "real 6162")
	with("round 1 1 0 7a7a\nround 3 1 0 7a7a\nround 5 1 0 7a7a\nround 6 1 1 7a7a", "real 6162", "real 6364", "cover 7a7a", "real 00ff")
	with("round 2 1 0 7a7a\nround 4 1 0 8b9c\nround 2 1 0 7a7a", "real 00ff", "cover 8b9c", "refused old")
	with("round 1 2 0 00010203", "cover 0001")
	with("round 0 1 0 7a7a", "refused old")
	with("round 1 1 2 7a7a\nround 0 1 255 -", "refused class", "refused class")
	with("round 1 1 0 7a\nround 1 1 0 -\nround 1 1 1 7a7a7a", "refused bits", "refused bits", "real 6162")
	with("round 18446744073709551615 1 0 7a7a\nround 18446744073709551615 1 0 7a7a", "real 6162", "refused old")
	with("round 1 4294967295 1 7a7a\nround 3 1 1 7a7a", "cover 7a7a", "real 6162")
	// Five quarters are all that a contact may use.
	with("round 1 1 1 7a7a\nround 3 1 1 7a7a\npush 20 6566\nround 5 1 1 7a7a\nround 7 1 0 7a7a", "real 6162", "real 6364", "ok", "cover 7a7a", "real 6566")
}

// P30.2: of a report the verdict, or its error's word; the first of these errors, whatever the rows.
func TestRunReport(t *testing.T) {
	says(t, "report 1 3:1\nreport 2 0:1\nreport 3 2:1\nreport 4294967295 0:1 3:8 6:1\nreport 0 3:4294967295", "accept", "reject", "unclear", "accept", "accept")
	for _, rows := range []string{"", " 3:0", " 3:1 3:1", " 3:1 2:1", " 0:0", " 4294967295:1 3:1", " 4294967295:0", strings.Repeat(" 3:1", 300), " 3:1 4:1 5:0"} {
		says(t, "report 1"+rows+"\nreport 1 3:1\nreport 1"+rows+"\nreport 1 3:1", "form", "accept", "form", "state")
	}
	most, rising := "", ""
	for i := range 256 {
		most += fmt.Sprintf(" %d:1", i)
	}
	rising = most + " 256:1"
	says(t, "report 1"+rising+"\nreport 1"+most+"\nreport 1"+most+"\nreport 1"+rising, "form", "reject", "state", "form")
	says(t, "report 1 2147483649:1\nreport 1 4294967295:1\nreport 1 2147483648:1\nreport 1 2147483649:1\nreport 1 0:1", "range", "range", "reject", "range", "state")
	script, want := "", []string{}
	for i := range 64 {
		script += fmt.Sprintf("report %d 3:1\n", i)
		want = append(want, "accept")
	}
	says(t, script+"report 63 3:1\nreport 64 3:1\nreport 64\nreport 64 4294967295:1\ncrash -\nreport 64 3:1", append(want, "state", "full", "form", "range", "done", "accept")...)
}

// P30.2: a crash keeps the writes that are told, and the governor begins anew; an armed disk fails as told.
func TestRunCrash(t *testing.T) {
	const ahead = "report 1 3:1\npush 20 6161\n"
	lasts := []string{"round 1", "ledger open", "why none", "waiting 0", "all 1/4 0/1", "contact 0 0/1 0/1", "contact 1 1/4 0/1"}
	lost := []string{"round 0", "ledger open", "why none", "waiting 0", "all 0/1 0/1", "contact 0 0/1 0/1", "contact 1 0/1 0/1"}
	with := func(lines string, want ...string) {
		t.Helper()
		says(t, ahead+lines, append([]string{"accept", "ok"}, want...)...)
	}
	with("crash -\nstatus", append([]string{"done"}, lost...)...)
	with("round 1 1 0 7a7a\ncrash -\nstatus", append([]string{"real 6161", "done"}, lasts...)...)
	// The write fails: nothing of it is left, and nothing to keep.
	with("arm 1\nround 1 1 0 7a7a\ncrash 11\nstatus", append([]string{"done", "cover 7a7a", "done"}, lost...)...)
	// The sync fails: the one write lasts just if it is kept.
	for bits, want := range map[string][]string{"-": lost, "0": lost, "01": lost, "1": lasts, "10": lasts, "111111": lasts} {
		with("arm 2\nround 1 1 0 7a7a\ncrash "+bits+"\nstatus", append([]string{"done", "cover 7a7a", "done"}, want...)...)
	}
	// Arming by 0 takes it back.
	with("arm 1\narm 0\nround 1 1 0 7a7a\nstatus", append([]string{"done", "done", "real 6161"}, lasts...)...)
	with("arm 3\nround 1 1 0 7a7a\nround 3 1 0 7a7a\nstatus", "done", "real 6161", "cover 7a7a",
		"round 3", "ledger open", "why round disk", "waiting 0", "all 1/4 0/1", "contact 0 0/1 0/1", "contact 1 1/4 0/1")
	with("arm 1048576\nround 1 1 0 7a7a\nstatus", append([]string{"done", "real 6161"}, lasts...)...)
	// It fails where the governor begins anew: there is no ledger any more, till it begins again.
	with("arm 1\ncrash -\nstatus\nround 1 1 0 7a7a\ncrash -\nstatus", append([]string{"done", "done", "round 0", "ledger closed", "why open disk", "waiting 0", "cover 7a7a", "done"}, lost...)...)
}

// P30.2: a script that is wrong is told, ahead of all else, and nothing is said of its lines.
func TestRunWrong(t *testing.T) {
	bad := small()
	bad.Tau.Den = 0
	look := func(script, want string) {
		t.Helper()
		for _, size := range []int{size, 0, math.MinInt, 4097, 5} {
			for _, n := range []int{n, 0, math.MaxInt} {
				for _, p := range []plan.Plan{small(), bad, {}} {
					if got := Run(script, size, n, p); !slices.Equal(got, []string{want}) {
						t.Fatalf("%.80q, %d, %d: %q, not %q", script, size, n, got, want)
					}
				}
			}
		}
	}
	look("walk", "error script name 0")
	look("status\n\n\npush 10 6161\nwalk\n", "error script name 4")
	look("status\nstatus 1\nwalk", "error script form 1")
	look("\n\npush 1", "error script form 2")
	look(" status", "error script name 0")
	look(strings.Repeat("\n", 65535)+"x", "error script name 65535")
	look(strings.Repeat("\n", 65537), "error script long 0")
	look("walk"+strings.Repeat("\n", 65536), "error script long 0")
}

// P30.2: the disk, Create and Begin: the first that doesn't go well.
func TestRunBegin(t *testing.T) {
	plans := func(change func(p *plan.Plan)) plan.Plan {
		p := small()
		change(&p)
		return p
	}
	good := small()
	tau := plans(func(p *plan.Plan) { p.Tau.Den = 0 })
	classes := plans(func(p *plan.Plan) { p.Classes = nil })
	contacts := plans(func(p *plan.Plan) { p.Contacts = []uint64{20, 10} })
	for _, c := range []struct {
		size, n int
		p       plan.Plan
		want    string
	}{
		{0, 4, good, "range"}, {-1, 4, good, "range"}, {4097, 4, good, "range"}, {math.MaxInt, 4, good, "range"}, {math.MinInt, 4, good, "range"},
		{0, 4, classes, "range"}, {4097, 4, contacts, "range"},
		{13, 4, tau, "range"}, {13, 4, classes, "class"}, {13, 4, contacts, "name"}, {13, 0, classes, "class"}, {5, 4, contacts, "name"}, {13, 1, classes, "class"}, {13, 4, plan.Plan{}, "range"},
		{13, 0, good, "range"}, {13, -1, good, "range"}, {13, 7, good, "range"}, {13, math.MaxInt, good, "range"}, {13, math.MinInt, good, "range"}, {8, 4, good, "range"}, {1, 1, good, "range"},
		{13, 1, good, "long"},
	} {
		for _, script := range []string{"", "status", "push 1 -\nround 1 1 1 -"} {
			if got := Run(script, c.size, c.n, c.p); !slices.Equal(got, []string{"error begin " + c.want}) {
				t.Fatalf("%d, %d, %+v: %q, not %s", c.size, c.n, c.p, got, c.want)
			}
		}
	}
	for _, c := range [][2]int{{9, 4}, {4096, 4}, {4096, 2000}, {13, 6}} {
		if got := Run("push 10 6161", c[0], c[1], good); !slices.Equal(got, []string{"ok"}) {
			t.Fatal(c, got)
		}
	}
}

// player is a governor that lines are told of by hand.
type player struct {
	d *disk.Disk
	g *govern.Governor
	p plan.Plan
}

func plays(t testing.TB, p plan.Plan) player {
	t.Helper()
	d, e := disk.New(size)
	f := govern.Create(d, n, p)
	g, h := govern.Begin(d, n, p)
	if e != api.OK || f != api.OK || h != api.OK {
		t.Fatal(e, f, h)
	}
	return player{d, g, p}
}

// says is what should be said of a step. Rounds and reports are told by bytes that the tests make up, of reports that may not be, too.
func (m player) says(s Step) []string {
	switch s.Word {
	case "push":
		return []string{m.g.Push(s.A, s.Bytes).Word()}
	case "round":
		b := binary.BigEndian.AppendUint64([]byte("R"), s.A)
		b = append(binary.BigEndian.AppendUint32(b, uint32(s.B)), byte(s.C))
		switch r := m.g.Round(string(b), tape.New(s.Bytes)); {
		case r.Err != api.OK:
			return []string{"refused " + r.Err.Word()}
		case r.Real:
			return []string{fmt.Sprintf("real %x", r.Envelope)}
		default:
			return []string{fmt.Sprintf("cover %x", r.Envelope)}
		}
	case "report":
		b := binary.BigEndian.AppendUint32([]byte("H"), uint32(s.A))
		b = binary.BigEndian.AppendUint16(b, uint16(len(s.Rows)))
		for _, r := range s.Rows {
			b = binary.BigEndian.AppendUint32(b, r.Value)
			b = binary.BigEndian.AppendUint32(b, r.Times)
		}
		v, e := m.g.Report(string(b))
		if e != api.OK {
			return []string{e.Word()}
		}
		return []string{map[audit.Verdict]string{audit.Accept: "accept", audit.Reject: "reject", audit.Unclear: "unclear"}[v]}
	case "crash":
		m.g.Crash(s.Keep)
		return []string{"done"}
	case "arm":
		m.d.Arm(int(s.A))
		return []string{"done"}
	}
	return status.Lines(m.g, m.p)
}

// likely is a random step, often one that may go well.
func likely(r *rand.Rand, p plan.Plan, round *uint64) Step {
	text := func() string { return strings.Repeat(string(rune('a'+r.IntN(26))), p.Length) }
	switch r.IntN(12) {
	case 0:
		s, _ := some(r)
		return s
	case 1:
		return Step{Word: "status"}
	case 2:
		s := Step{Word: "crash"}
		for range r.IntN(4) {
			s.Keep = append(s.Keep, r.IntN(2) == 0)
		}
		return s
	case 3:
		return Step{Word: "arm", A: uint64(r.IntN(9))}
	case 4, 5:
		s := Step{Word: "report", A: uint64(r.IntN(4))}
		for range 1 + r.IntN(2)*r.IntN(3) {
			s.Rows = append(s.Rows, met(uint32(r.IntN(5)+len(s.Rows)), uint32(r.IntN(9))))
		}
		return s
	case 6, 7, 8:
		return Step{Word: "push", A: uint64(10 + 10*r.IntN(3)), Bytes: text()}
	}
	*round += uint64(r.IntN(4))
	return Step{Word: "round", A: *round, B: uint64(r.IntN(4)), C: uint64(r.IntN(3)), Bytes: text()}
}

// P30.2: of many scripts, all lines that a governor comes to that the same is done to by hand.
func TestManyScripts(t *testing.T) {
	r := rand.New(rand.NewPCG(30, 3))
	many := map[string]int{}
	for i := range 1500 {
		p := small()
		if i%3 == 0 {
			p.Mode, p.Slack, p.Global, p.Contact = plan.Strong, ratio(1, 1+r.Uint32N(99)+1), cost(1+r.Uint32N(60), 4), cost(1+r.Uint32N(40), 4)
		}
		if i%5 == 0 {
			p.Length, p.Queue = 1+r.IntN(256), 1+r.IntN(9)
		}
		m := plays(t, p)
		script, round := "", uint64(0)
		var want []string
		for range r.IntN(60) {
			s := likely(r, p, &round)
			script += strings.Repeat("\n", r.IntN(2)) + written(s) + "\n"
			want = append(want, m.says(s)...)
		}
		got := Run(script, size, n, p)
		if !slices.Equal(got, want) {
			t.Fatalf("%s: %q, not %q", script, got, want)
		}
		for _, s := range got {
			kind, _, _ := strings.Cut(s, " ")
			many[kind]++
			many[s]++
		}
	}
	for _, kind := range []string{"real", "cover", "refused old", "refused class", "refused bits", "accept", "reject", "unclear", "form", "state", "ok", "full", "name", "done", "ledger open", "ledger closed", "why round disk", "why open disk"} {
		if many[kind] < 20 {
			t.Error("the test's own: too few,", kind, many[kind])
		}
	}
}

// R5, W6: a script comes to the same lines each time; what is handed in isn't changed or kept, and what is handed out is new.
func TestSameLines(t *testing.T) {
	r := rand.New(rand.NewPCG(30, 4))
	for range 100 {
		p := small()
		p.Classes, p.Contacts = slices.Grow(p.Classes, 4), slices.Grow(p.Contacts, 4)
		script, round := "", uint64(0)
		for range 40 {
			script += written(likely(r, p, &round)) + "\n"
		}
		first := Run(script, size, n, p)
		want := slices.Clone(first)
		clear(first[:cap(first)])
		if got := Run(script, size, n, p); !slices.Equal(got, want) {
			t.Fatal(script)
		}
		if !reflect.DeepEqual(p, small()) || p.Classes[:3][2] != (plan.Cost{}) || p.Contacts[:3][2] != 0 {
			t.Fatal("the plan:", p)
		}
	}
}

// W6: what is refused, and how long the envelopes are, doesn't hang on what is pushed.
func TestBlind(t *testing.T) {
	r := rand.New(rand.NewPCG(30, 5))
	real := 0
	for range 200 {
		const ahead = "report 0 3:1\nreport 1 3:1\nreport 2 3:1\nreport 3 3:1\n"
		with, without := ahead, ahead
		round := uint64(0)
		for range 60 {
			s := likely(r, small(), &round)
			if s.Word == "status" {
				continue
			}
			line := written(s) + "\n"
			with += line
			if s.Word != "push" {
				without += line
			}
		}
		var seen [2][]string
		for i, script := range []string{with, without} {
			for _, s := range Run(script, size, n, small()) {
				word, behind, _ := strings.Cut(s, " ")
				switch word {
				case "real", "cover":
					seen[i] = append(seen[i], fmt.Sprint("sent ", len(behind)))
					if word == "real" {
						real++
					}
				case "refused":
					seen[i] = append(seen[i], s)
				}
			}
		}
		if !slices.Equal(seen[0], seen[1]) {
			t.Fatal(with, seen)
		}
	}
	if real < 100 {
		t.Fatal("the test's own: too few,", real)
	}
}

// R1: whatever the lines, the sizes and the plan are, a script is run to its end.
func TestWhatever(t *testing.T) {
	r := rand.New(rand.NewPCG(30, 6))
	for range 3000 {
		script := ""
		for range r.IntN(9) {
			_, line := some(r)
			script += line + "\n"
		}
		if len(script) > 0 && r.IntN(2) == 0 {
			at := r.IntN(len(script))
			script = script[:at] + string([]byte{byte(r.Uint32())}) + script[at+1:]
		}
		p := small()
		switch r.IntN(4) {
		case 0:
			p.Mode, p.Prec = plan.Mode(r.IntN(4)-1), r.IntN(70)
		case 1:
			p.Length, p.Queue, p.Tau.Den = r.IntN(300), r.IntN(70), uint32(r.IntN(3))
		}
		if got := Run(script, r.IntN(40)-5, r.IntN(12)-3, p); len(script) > 0 && len(got) == 0 {
			t.Fatalf("%q: nothing is said", script)
		}
	}
}
