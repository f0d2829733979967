package runner

import (
	"reflect"
	"strconv"
	"strings"
	"testing"

	"colloquy/api"
	"colloquy/sound"
	"colloquy/suite"
	"colloquy/trace"
)

// someBoard is the board of the most tests here.
var someBoard = api.Board{Name: "b", Props: []api.Prop{{Name: "x", Val: "1"}, {Name: "y", Val: "2"}, {Name: "x", Val: "3"}}}

// group is the sound group of the tests that stand in a text.
func group(t *testing.T, tests string) api.Group {
	t.Helper()
	s, flaw := suite.Parse(`suite "s" board "b" { } group "g" { ` + tests + ` }`)
	if flaw.Code != api.OK {
		t.Fatalf("%s: %v", tests, flaw)
	}
	if f := sound.Check(s); f.Code != api.OK {
		t.Fatalf("%s: %v", tests, f)
	}
	return s.Groups[0]
}

// streams are what stands in texts: of "2:ok 3:EOF" a chunk at 2, and an end of file 3 ticks behind; 3:DEATH is a death.
func streams(texts ...string) []api.Stream {
	var all []api.Stream
	for _, text := range texts {
		var s api.Stream
		for _, part := range strings.Fields(text) {
			ticks, what, _ := strings.Cut(part, ":")
			wait, _ := strconv.Atoi(ticks)
			switch what {
			case "EOF":
				s.End, s.Wait = api.AtEof, wait
			case "DEATH":
				s.End, s.Wait = api.Dies, wait
			default:
				s.Chunks = append(s.Chunks, api.Chunk{Wait: wait, B: []byte(what)})
			}
		}
		all = append(all, s)
	}
	return all
}

var eventWords = [...]string{"?", "spawned", "sent", "matched", "filled", "over", "dead", "late", "spent", "nofuel", "close", "far", "passed", "failed", "waited"}

// fate is what has become of a test: its verdict, and its events, each with its time ahead.
func fate(r api.Result, es []api.Event) string {
	out := trace.Text(r.Verdict) + ":"
	for _, e := range es {
		out += " " + strconv.FormatInt(e.At, 10) + " " + eventWords[e.Kind]
		switch e.Kind {
		case api.Spawned, api.Matched, api.Filled, api.Over, api.Dead, api.TimedOut, api.Waited:
			out += " " + strconv.Itoa(e.N)
		}
		if e.Text != "" {
			out += " " + e.Text
		}
		out += ","
	}
	return strings.TrimSuffix(out, ",")
}

// ran is a group that was run, and what must have become of it.
type ran struct {
	tests   string
	streams []string
	want    []string
	report  [3]int // sessions, fuel that was taken, ticks
}

var someConf = Conf{Buffer: 20, Fuel: 1000}

// run: the group becomes what it must, by its own words and by the plain reading.
func (x ran) run(t *testing.T, c Conf) {
	t.Helper()
	g, ss := group(t, x.tests), streams(x.streams...)
	r := Run(7, g, someBoard, ss, c)
	var got []string
	for i, one := range r.Entry.Results {
		got = append(got, fate(one, r.Entry.Traces[i]))
	}
	if strings.Join(got, "\n") != strings.Join(x.want, "\n") {
		t.Errorf("%s, %q:\n%s\nnot\n%s", x.tests, x.streams, strings.Join(got, "\n"), strings.Join(x.want, "\n"))
	}
	if r.Sessions != x.report[0] || max(c.Fuel, 0)-r.Fuel != x.report[1] || r.Ticks != int64(x.report[2]) {
		t.Errorf("%s, %q: %d sessions, %d fuel left, %d ticks, not %v", x.tests, x.streams, r.Sessions, r.Fuel, r.Ticks, x.report)
	}
	hold(t, 7, g, someBoard, ss, c)
}

func runAll(t *testing.T, xs []ran) {
	t.Helper()
	for _, x := range xs {
		x.run(t, someConf)
	}
}

// hold holds a report of a sound group against the plain reading, and against what the document promises of all reports.
func hold(t *testing.T, number int, g api.Group, b api.Board, ss []api.Stream, c Conf) Report {
	t.Helper()
	got, want := Run(number, g, b, ss, c), plainRun(number, g, b, ss, c)
	if !sameReport(got, want) {
		t.Fatalf("%+v on %+v, %+v, %+v:\n%+v\nnot\n%+v", g, b, ss, c, got, want)
	}
	holdPromises(t, g, c, got)
	return got
}

func sameReport(one, two Report) bool {
	if one.Entry.Group != two.Entry.Group || one.Sessions != two.Sessions || one.Fuel != two.Fuel || one.Ticks != two.Ticks {
		return false
	}
	if !sameList(one.Entry.Results, two.Entry.Results) || len(one.Entry.Traces) != len(two.Entry.Traces) {
		return false
	}
	for i, es := range one.Entry.Traces {
		if !sameList(es, two.Entry.Traces[i]) {
			return false
		}
	}
	return true
}

func sameList[T any](one, two []T) bool {
	return len(one) == 0 && len(two) == 0 || reflect.DeepEqual(one, two)
}

// holdPromises: what P19.2 and P19.3 promise, without any reading of how tests are done.
func holdPromises(t *testing.T, g api.Group, c Conf, r Report) {
	t.Helper()
	now, ticks := int64(0), int64(0)
	sessions, unresolved := 0, 0
	for i, es := range r.Entry.Traces {
		v := r.Entry.Results[i].Verdict
		if !trace.Right(es) || v != trace.Verdict(g.Tests[i].Kind, es, v == api.XPASS || v == api.XFAIL) {
			t.Fatalf("%+v: the verdict %d of %+v", g, v, es)
		}
		for _, e := range es {
			if e.Kind == api.Spawned {
				if e.N != sessions {
					t.Fatalf("%+v: session %d is number %d", g, sessions, e.N)
				}
				sessions++
				ticks, now = ticks+now, 0
			}
		}
		if len(es) > 0 {
			last := es[len(es)-1].At
			if last-now > int64(g.Tests[i].Budget) {
				t.Fatalf("%+v: test %d takes %d ticks", g, i, last-now)
			}
			now = last
		}
		if v == api.UNRESOLVED {
			unresolved++
		}
	}
	if r.Sessions != sessions || sessions > 1+unresolved || r.Ticks != ticks+now {
		t.Fatalf("%+v: %d sessions, %d, %d unresolved; %d ticks, %d", g, r.Sessions, sessions, unresolved, r.Ticks, ticks+now)
	}
	if r.Fuel < 0 || r.Fuel > between(0, c.Fuel, api.MaxFuel) {
		t.Fatalf("%+v: %d fuel of %d", g, r.Fuel, c.Fuel)
	}
}
