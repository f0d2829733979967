package book

import (
	"math"
	"math/rand"
	"slices"
	"strings"
	"testing"

	"colloquy/api"
)

// someEntry is an entry with some tests; with wrong it may be not right.
func someEntry(r *rand.Rand, wrong bool) api.Entry {
	names := []string{"t", "a b", " ", "\n", "x\nend", "test t: PASS", "end", "  0 passed", "\xff", "group g"}
	e := api.Entry{Group: r.Intn(4)}
	for range r.Intn(4) {
		e.Results = append(e.Results, api.Result{Name: names[r.Intn(len(names))], Verdict: 1 + r.Intn(7)})
		e.Traces = append(e.Traces, someTrace(r))
	}
	if !wrong {
		return e
	}
	switch r.Intn(9) {
	case 0:
		e.Group = -1 - r.Intn(2)
	case 1:
		e.Group = 1<<20 + r.Intn(3)
	case 2:
		e.Traces = append(e.Traces, nil)
	case 3:
		e.Results = append(e.Results, api.Result{Name: "t", Verdict: 1})
	}
	if len(e.Results) == 0 || len(e.Traces) == 0 {
		return e
	}
	i := min(r.Intn(len(e.Results)), len(e.Traces)-1)
	switch r.Intn(6) {
	case 0:
		e.Results[i].Name = []string{"", strings.Repeat("n", 80), strings.Repeat("n", 81)}[r.Intn(3)]
	case 1:
		e.Results[i].Verdict = []int{0, 8, -1, math.MaxInt, math.MinInt}[r.Intn(5)]
	case 2:
		e.Traces[i] = append(e.Traces[i], someEvent(r))
	case 3:
		if es := e.Traces[i]; len(es) > 0 {
			es[r.Intn(len(es))] = someEvent(r)
		}
	}
	return e
}

// someTrace is a trace that is right.
func someTrace(r *rand.Rand) []api.Event {
	var es []api.Event
	for range r.Intn(6) {
		e := someEvent(r)
		for !plainTrace(append(slices.Clone(es), e)) || e.N > 1<<40 || e.At > 1<<50 || plainDecides(e) && r.Intn(4) > 0 {
			e = someEvent(r)
			if len(es) > 0 && e.Kind != api.Spawned {
				e.At += es[len(es)-1].At
			}
			if e.Kind == api.Spawned {
				e.At = 0
			}
		}
		es = append(es, e)
		if plainDecides(e) {
			break
		}
	}
	return es
}

var someEntryEvents = []api.Event{{Kind: api.Spawned}, {Kind: api.Sent, Text: "a\nend\n"}, {Kind: api.Matched, Text: "\"", At: 3}, {Kind: api.Over, N: -1, At: 5}}

func TestLogs(t *testing.T) { // P21.1, P21.3
	some := api.Entry{Group: 1, Results: []api.Result{{Name: "t", Verdict: api.UNRESOLVED}}, Traces: [][]api.Event{someEntryEvents}}
	for want, got := range map[string]string{
		"Log of s\nBoard b\nend\n":                                                     Log("s", "b", nil, nil),
		"Log of a\\0a\nBoard \\20\nend\n":                                              Log("a\n", " ", []string{"", "g"}, []api.Entry{}),
		"Log of s\nBoard b\ngroup g\nend\n":                                            Log("s", "b", []string{"g"}, []api.Entry{{}}),
		"Log of s\nBoard b\ngroup h\ngroup g\ngroup h\nend\n":                          Log("s", "b", []string{"g", "h"}, []api.Entry{{Group: 1}, {}, {Group: 1}}),
		"Log of s\nBoard b\ngroup h\ntest t: PASS\ntest t: XPASS\nend\n":               Log("s", "b", []string{"", "h"}, []api.Entry{{Group: 1, Results: []api.Result{{Name: "t", Verdict: 1}, {Name: "t", Verdict: 3}}, Traces: [][]api.Event{nil, {}}}}),
		"Log of end\nBoard end\ngroup end\\0a\ntest x\\0aend: FAIL\n  0 failed\nend\n": Log("end", "end", []string{"end\n"}, []api.Entry{{Results: []api.Result{{Name: "x\nend", Verdict: 2}}, Traces: [][]api.Event{{{Kind: api.Failed}}}}}),
		"Log of s\nBoard b\ngroup h\ntest t: UNRESOLVED\n  0 spawned 0\n  0 sent \"a\\nend\\n\"\n  3 matched 0 \"\\\"\"\n  5 over -\nend\n": Log("s", "b", []string{"g", "h"}, []api.Entry{some}),
	} {
		if got != want {
			t.Errorf("%q, not %q", got, want)
		}
	}
	for v, word := range plainVerdicts {
		e := api.Entry{Results: []api.Result{{Name: "t", Verdict: v}}, Traces: [][]api.Event{nil}}
		want := "Log of s\nBoard b\ngroup g\ntest t: " + word + "\nend\n"
		if v == 0 {
			want = ""
		}
		if got := Log("s", "b", []string{"g"}, []api.Entry{e}); got != want {
			t.Errorf("%d: %q", v, got)
		}
	}
}

// TestNoLogs: something isn't right.
func TestNoLogs(t *testing.T) { // P21.1
	good := api.Entry{Results: []api.Result{{Name: "t", Verdict: 1}}, Traces: [][]api.Event{{{Kind: api.Passed}}}}
	groups := []string{"g", "", "h", strings.Repeat("n", 81), strings.Repeat("n", 80)}
	if Log("s", "b", groups, []api.Entry{good, {Group: 2}, {Group: 4}}) == "" {
		t.Error("all is right")
	}
	long := strings.Repeat("n", 81)
	for i, got := range []string{
		Log("", "b", groups, nil), Log("s", "", groups, nil), Log(long, "b", groups, nil), Log("s", long, groups, nil), Log("", "", nil, []api.Entry{good}),
		Log("s", "b", nil, []api.Entry{good}), Log("s", "b", groups[:0], []api.Entry{good}), Log("s", "b", groups[:1], []api.Entry{good, {Group: 1}}), Log("s", "b", groups[:2], []api.Entry{{Group: 2}, good}),
		Log("s", "b", groups, []api.Entry{{Group: 1}}), Log("s", "b", groups, []api.Entry{good, {Group: 3}, good}), Log("s", "b", groups, []api.Entry{{Group: 5}}), Log("s", "b", groups, []api.Entry{{Group: -1}}), Log("s", "b", groups, []api.Entry{{Group: math.MinInt}}), Log("s", "b", groups, []api.Entry{{Group: math.MaxInt}}),
	} {
		if got != "" {
			t.Errorf("%d: %q", i, got)
		}
	}
	for i, e := range wrongEntries() {
		for _, es := range [][]api.Entry{{e}, {good, e}, {e, good}} {
			if got := Log("s", "b", []string{"g", "h"}, es); got != "" {
				t.Errorf("%d: %q", i, got)
			}
		}
	}
	// The group of the last number that there may be, and one beyond.
	many := slices.Repeat([]string{"g"}, 1<<20+2)
	if Log("s", "b", many, []api.Entry{{Group: 1 << 20}}) != "Log of s\nBoard b\ngroup g\nend\n" || Log("s", "b", many, []api.Entry{{Group: 1<<20 + 1}}) != "" {
		t.Error("at the bound")
	}
}

func TestAnyLogs(t *testing.T) { // P21.1, P21.3
	r := rand.New(rand.NewSource(3))
	names := []string{"s", "b\n", "Log of s", "a b", "\xff ", "end"}
	right := 0
	for range 30000 {
		wrong := r.Intn(3) == 0
		var es []api.Entry
		for range r.Intn(4) {
			es = append(es, someEntry(r, wrong))
		}
		groups := make([]string, 3+r.Intn(3))
		for i := range groups {
			groups[i] = names[r.Intn(len(names))]
		}
		if wrong {
			groups[r.Intn(len(groups))] = ""
		}
		suite, board := names[r.Intn(len(names))], names[r.Intn(len(names))]
		got := Log(suite, board, groups, es)
		if want := plainLog(suite, board, groups, es); got != want {
			t.Fatalf("%q, not %q", got, want)
		}
		if got == "" {
			continue
		}
		right++
		lines := 3 + len(es)
		for _, e := range es {
			lines += len(e.Results) + len(slices.Concat(e.Traces...))
		}
		if strings.Count(got, "\n") != lines {
			t.Fatalf("%q: not %d lines", got, lines)
		}
	}
	if right < 10000 || right > 28000 {
		t.Errorf("%d are right", right)
	}
}
