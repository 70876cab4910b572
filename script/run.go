package script

import (
	"strings"

	"chaff/api"
	"chaff/disk"
	"chaff/govern"
	"chaff/news"
	"chaff/plan"
	"chaff/status"
	"chaff/tape"
)

// done is said of what can't go wrong.
const done = "done"

// verdicts are the words of the verdicts on epochs, by their numbers.
var verdicts = [...]string{1: "accept", 2: "reject", 3: "unclear"}

// stage is what a script runs on.
type stage struct {
	disk     *disk.Disk
	governor *govern.Governor
	plan     plan.Plan
}

// Run is what a script says.
func Run(script string, size, n int, p plan.Plan) []string {
	steps, at, e := Parse(script)
	if e != api.OK {
		return said("error script", e.Word(), digits(uint64(at)))
	}
	g, e := begin(size, n, p)
	if e != api.OK {
		return said("error begin", e.Word())
	}
	var lines []string
	for _, s := range steps {
		lines = append(lines, g.take(s)...)
	}
	return lines
}

// begin is a new governor on a new disk.
func begin(size, n int, p plan.Plan) (stage, api.Errno) {
	d, e := disk.New(size)
	if e != api.OK {
		return stage{}, e
	}
	if e := govern.Create(d, n, p); e != api.OK {
		return stage{}, e
	}
	g, e := govern.Begin(d, n, p)
	if e != api.OK {
		return stage{}, e
	}
	return stage{d, g, p}, api.OK
}

// said is a line of words.
func said(words ...string) []string { return []string{strings.Join(words, blank)} }

// take takes a step, and answers what is said of it.
func (g stage) take(s Step) []string {
	switch s.Word {
	case atPush:
		return said(g.governor.Push(s.A, s.Bytes).Word())
	case atRound:
		return said(g.round(s)...)
	case atReport:
		return said(g.report(s))
	case atCrash:
		g.governor.Crash(s.Keep)
		return said(done)
	case atArm:
		g.disk.Arm(int(s.A))
		return said(done)
	}
	return status.Lines(g.governor, g.plan)
}

// round is what comes of a round, as words.
func (g stage) round(s Step) []string {
	bytes := news.CloseRound(news.Round{Number: s.A, Epoch: uint32(s.B), Class: uint8(s.C)})
	r := g.governor.Round(bytes, tape.New(s.Bytes))
	switch {
	case r.Err != api.OK:
		return []string{"refused", r.Err.Word()}
	case r.Real:
		return []string{"real", hexWord(r.Envelope)}
	}
	return []string{"cover", hexWord(r.Envelope)}
}

// report is the word of what comes of a report.
func (g stage) report(s Step) string {
	bytes, e := news.CloseReport(news.Report{Epoch: uint32(s.A), Rows: s.Rows})
	if e != api.OK {
		// A report that may not be has no bytes to hand on; a governor finds the same wrong with it first.
		return e.Word()
	}
	v, e := g.governor.Report(bytes)
	if e != api.OK {
		return e.Word()
	}
	return verdicts[v]
}
