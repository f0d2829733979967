package merge

import (
	"math"
	"math/rand"
	"slices"
	"strings"
	"testing"

	"colloquy/api"
	"colloquy/book"
	"colloquy/sum"
)

// holdPublish holds what is published against the chapter's words; the answer is its code.
func holdPublish(t *testing.T, s api.Suite, board string, es []api.Entry) api.Errno {
	t.Helper()
	text, log, code := Publish(s, board, es)
	wantText, wantLog, wantCode := plainPublish(s, board, es)
	if code != wantCode || text != wantText || log != wantLog || (code == api.OK) != (text != "" && log != "") {
		t.Fatalf("%q, %d groups, %q, %.300s: %.300q, %.300q, %d, not %.300q, %.300q, %d", s.Name, len(s.Groups), board, toldAll(es), text, log, code, wantText, wantLog, wantCode)
	}
	return code
}

// tests are tests of these names.
func tests(names ...string) []api.Test {
	var all []api.Test
	for _, n := range names {
		all = append(all, api.Test{Name: n})
	}
	return all
}

// someGroups are a suite's: g0 and g1, whose tests are those of entry, and g2, which has none.
func someGroups() []api.Group {
	return []api.Group{{Name: "g0", Tests: tests("t", "u", "v")}, {Name: "g1", Tests: tests("t", "u", "v")}, {Name: "g2"}}
}

// events are what stands in a log of what entry has.
const events = "test t: PASS\n  0 spawned 0\n  2 matched 1 \"a\"\n  2 passed\ntest u: UNTESTED\ntest v: UNRESOLVED\n  3 sent \"b\"\n  5 late -\n"

func TestTexts(t *testing.T) { // P22.1
	s := api.Suite{Name: "s", Groups: someGroups()}
	signs := api.Suite{Name: " s", Groups: []api.Group{{Name: "\n# end", Tests: []api.Test{{Name: "a\\", Kind: api.Unsupported}}}}}
	sign := api.Entry{Results: []api.Result{{Name: "a\\", Verdict: api.XFAIL}}, Traces: [][]api.Event{{{Kind: api.Sent, Text: "x\nend\n"}}}}
	const results = "PASS: t\nUNTESTED: u\nUNRESOLVED: v\n"
	for i, x := range []struct {
		s         api.Suite
		board     string
		es        []api.Entry
		text, log string
	}{
		{s, "b", nil, "Test run of s\nBoard b\n# end\n", "Log of s\nBoard b\nend\n"},
		{api.Suite{Name: "s"}, "b", []api.Entry{}, "Test run of s\nBoard b\n# end\n", "Log of s\nBoard b\nend\n"},
		{s, "b", []api.Entry{{Group: 2}}, "Test run of s\nBoard b\ngroup g2\n# end\n", "Log of s\nBoard b\ngroup g2\nend\n"},
		{s, "b", []api.Entry{entry(0)}, "Test run of s\nBoard b\ngroup g0\n" + results + "# PASS 1\n# UNRESOLVED 1\n# UNTESTED 1\n# end\n", "Log of s\nBoard b\ngroup g0\n" + events + "end\n"},
		{s, "b c", []api.Entry{{Group: 2}, entry(1), {Group: 2}, entry(0), entry(1)}, "Test run of s\nBoard b c\ngroup g2\ngroup g1\n" + results + "group g2\ngroup g0\n" + results + "group g1\n" + results + "# PASS 3\n# UNRESOLVED 3\n# UNTESTED 3\n# end\n", "Log of s\nBoard b c\ngroup g2\ngroup g1\n" + events + "group g2\ngroup g0\n" + events + "group g1\n" + events + "end\n"},
		{signs, "b\n", []api.Entry{sign}, "Test run of \\20s\nBoard b\\0a\ngroup \\0a# end\nXFAIL: a\\5c\n# XFAIL 1\n# end\n", "Log of \\20s\nBoard b\\0a\ngroup \\0a# end\ntest a\\5c: XFAIL\n  0 sent \"x\\nend\\n\"\nend\n"},
	} {
		text, log, code := Publish(x.s, x.board, x.es)
		if code != api.OK || text != x.text || log != x.log {
			t.Errorf("case %d: %q, %q, %d", i, text, log, code)
		}
		holdPublish(t, x.s, x.board, x.es)
	}
}

// TestGroups: a suite has the groups of its numbers alone.
func TestGroups(t *testing.T) { // P22.1, DOC P1
	s := api.Suite{Name: "s", Groups: someGroups()}
	wrong := entry(1)
	wrong.Results[0].Verdict = 0
	few := api.Entry{Group: 1}
	for _, g := range []int{-1, 3, 4, math.MinInt, math.MaxInt, 1 << 20, 1<<20 + 1, 1 << 32, 1<<32 + 1, -1 << 32} {
		none := api.Entry{Group: g}
		for i, es := range [][]api.Entry{{none}, {entry(0), none}, {none, entry(1)}, groups(0, g, 1), {wrong, none}, {none, wrong}, {few, none}, {none, few}, {few, wrong, entry(g)}} {
			for _, board := range []string{"b", "", strings.Repeat("n", 81)} {
				if code := holdPublish(t, s, board, es); code != api.ErrGroup {
					t.Errorf("%d, case %d: %d", g, i, code)
				}
			}
			if code := holdPublish(t, api.Suite{Groups: []api.Group{{}, {}, {}}}, "b", es); code != api.ErrGroup {
				t.Errorf("%d, case %d, of no names: %d", g, i, code)
			}
		}
	}
	if code := holdPublish(t, api.Suite{Name: "s"}, "b", groups(0)); code != api.ErrGroup {
		t.Error(code)
	}
	if code := holdPublish(t, api.Suite{}, "", groups(0)); code != api.ErrGroup {
		t.Error(code)
	}
}

// TestNames: a name that is none is asked of the suite, the board, and those groups that entries are of.
func TestNames(t *testing.T) { // P22.1
	long := strings.Repeat("n", 81)
	most := long[:80]
	for _, none := range []string{"", long} {
		for i, x := range []struct {
			suite, board string
			names        [3]string
			es           []api.Entry
			code         api.Errno
		}{
			{"s", "b", [3]string{"g", "h", "i"}, groups(0, 1), api.OK}, {most, most, [3]string{most, "\x00", " "}, groups(0, 1), api.OK},
			{none, "b", [3]string{"g", "h", "i"}, groups(0, 1), api.ErrArg}, {"s", none, [3]string{"g", "h", "i"}, groups(0, 1), api.ErrArg}, {none, none, [3]string{"g", "h", "i"}, nil, api.ErrArg}, {none, "b", [3]string{"g", "h", "i"}, nil, api.ErrArg}, {"s", none, [3]string{"g", "h", "i"}, nil, api.ErrArg},
			{"s", "b", [3]string{none, "h", "i"}, groups(0, 1), api.ErrArg}, {"s", "b", [3]string{"g", none, "i"}, groups(0, 1), api.ErrArg}, {"s", "b", [3]string{"g", "h", none}, []api.Entry{entry(0), {Group: 2}}, api.ErrArg}, {"s", "b", [3]string{"g", "h", none}, []api.Entry{{Group: 2}}, api.ErrArg},
			{"s", "b", [3]string{none, none, none}, nil, api.OK}, {"s", "b", [3]string{"g", none, none}, groups(0, 0), api.OK}, {"s", "b", [3]string{none, "h", none}, groups(1), api.OK},
		} {
			s := api.Suite{Name: x.suite, Groups: someGroups()}
			for g := range s.Groups {
				s.Groups[g].Name = x.names[g]
			}
			if code := holdPublish(t, s, x.board, x.es); code != x.code {
				t.Errorf("case %d: %d, not %d", i, code, x.code)
			}
		}
	}
}

// TestResults: results are those of the group's tests.
func TestResults(t *testing.T) { // P22.1
	for i, x := range []struct {
		tests, results []string
		code           api.Errno
	}{
		{nil, nil, api.OK}, {[]string{"t"}, []string{"t"}, api.OK}, {[]string{"t", "t"}, []string{"t", "t"}, api.OK}, {[]string{"t", "u", "v"}, []string{"t", "u", "v"}, api.OK},
		{nil, []string{"t"}, api.ErrArg}, {[]string{"t"}, nil, api.ErrArg}, {[]string{"t", "u"}, []string{"t"}, api.ErrArg}, {[]string{"t", "u"}, []string{"u"}, api.ErrArg}, {[]string{"t"}, []string{"t", "u"}, api.ErrArg}, {[]string{"t"}, []string{"t", "t"}, api.ErrArg},
		{[]string{"t", "u"}, []string{"u", "t"}, api.ErrArg}, {[]string{"t", "u", "v"}, []string{"t", "v", "u"}, api.ErrArg}, {[]string{"t", "u", "v"}, []string{"t", "u", "w"}, api.ErrArg}, {[]string{"t", "u", "v"}, []string{"T", "u", "v"}, api.ErrArg}, {[]string{"t", "u", "v"}, []string{"t", "t", "v"}, api.ErrArg},
		{[]string{"t"}, []string{"t "}, api.ErrArg}, {[]string{"t2"}, []string{"t02"}, api.ErrArg}, {[]string{"t\n"}, []string{`t\0a`}, api.ErrArg}, {[]string{""}, []string{""}, api.ErrArg}, {[]string{"t", ""}, []string{"t", ""}, api.ErrArg}, {[]string{""}, []string{"t"}, api.ErrArg},
	} {
		e := api.Entry{Group: 1, Traces: make([][]api.Event, len(x.results))}
		for _, n := range x.results {
			e.Results = append(e.Results, api.Result{Name: n, Verdict: api.PASS})
		}
		for _, kind := range []int{api.Run, api.Untested, api.Unsupported, 9} {
			s := api.Suite{Name: "s", Groups: []api.Group{{Name: "g", Tests: tests("t", "u", "v")}, {Name: "h", Tests: tests(x.tests...)}}}
			for j := range s.Groups[1].Tests {
				s.Groups[1].Tests[j].Kind = kind
			}
			for _, es := range [][]api.Entry{{e}, {entry(0), e}, {e, entry(0)}, {e, e}} {
				if code := holdPublish(t, s, "b", es); code != x.code {
					t.Errorf("case %d: %d, not %d", i, code, x.code)
				}
			}
		}
	}
}

// wrongEntries are entries of a suite's first group, and that group's tests, whose names they have: each isn't right in one way that layer 21 names.
func wrongEntries() []api.Entry {
	one := func(name string, verdict int, es ...api.Event) api.Entry {
		return api.Entry{Results: []api.Result{{Name: name, Verdict: verdict}}, Traces: [][]api.Event{es}}
	}
	var all []api.Entry
	for _, v := range []int{0, 8, -1, math.MaxInt, math.MinInt, 1<<32 + 1} {
		all = append(all, one("t", v))
	}
	all = append(all, one("", 1), one(strings.Repeat("n", 81), 1))
	few, more := one("t", 1), one("t", 1)
	few.Traces, more.Traces = nil, [][]api.Event{nil, nil}
	all = append(all, few, more, api.Entry{Traces: [][]api.Event{nil}})
	for _, e := range []api.Event{
		{}, {Kind: -1}, {Kind: 15}, {Kind: api.Matched, N: -1}, {Kind: api.Over, N: -2}, {Kind: api.Passed, N: 1}, {Kind: api.Sent, N: 1}, {Kind: api.Passed, Text: "a"}, {Kind: api.Spawned, Text: "a"}, {Kind: api.Spawned, At: 1}, {Kind: api.Passed, At: -1},
		{Kind: api.Waited, N: 1<<40 + 1}, {Kind: api.Spawned, N: math.MaxInt}, {Kind: api.Passed, At: 1<<50 + 1}, {Kind: api.Sent, Text: strings.Repeat("a", 1<<20+1)},
	} {
		all = append(all, one("t", 1, e), one("t", 1, api.Event{Kind: api.Spawned}, e))
	}
	return append(all,
		one("t", 1, api.Event{Kind: api.Passed}, api.Event{Kind: api.Close}), one("t", 5, api.Event{Kind: api.TimedOut, N: -1}, api.Event{Kind: api.Spawned}),
		one("t", 1, api.Event{Kind: api.Close, At: 5}, api.Event{Kind: api.Passed, At: 4}))
}

func TestWrongEntries(t *testing.T) { // P22.1
	for i, e := range wrongEntries() {
		if book.Right(e) {
			t.Errorf("case %d: %.100v is right", i, e)
		}
		s := api.Suite{Name: "s", Groups: []api.Group{{Name: "g"}, {Name: "h"}}}
		for _, r := range e.Results {
			s.Groups[0].Tests = append(s.Groups[0].Tests, api.Test{Name: r.Name})
		}
		for _, es := range [][]api.Entry{{e}, {{Group: 1}, e}, {e, {Group: 1}}, {e, e}} {
			if code := holdPublish(t, s, "b", es); code != api.ErrArg {
				t.Errorf("case %d: %d", i, code)
			}
		}
		if code := holdPublish(t, s, "b", []api.Entry{e, {Group: 2}}); code != api.ErrGroup {
			t.Errorf("case %d: %d", i, code)
		}
	}
	// At the bounds all is right.
	most := api.Entry{Results: []api.Result{{Name: strings.Repeat("n", 80), Verdict: 7}}, Traces: [][]api.Event{{{Kind: api.Waited, N: 1 << 40}, {Kind: api.Sent, Text: strings.Repeat("\n", 1<<20)}, {Kind: api.Dead, N: -1, At: 1 << 50}}}}
	s := api.Suite{Name: "s", Groups: []api.Group{{Name: "g", Tests: tests(strings.Repeat("n", 80))}}}
	if code := holdPublish(t, s, "b", []api.Entry{most}); code != api.OK {
		t.Error(code)
	}
}

// TestGreatGroups: a suite may have more groups than an entry's number may tell.
func TestGreatGroups(t *testing.T) { // P22.1
	s := api.Suite{Name: "s", Groups: slices.Repeat([]api.Group{{Name: "g"}}, 1<<20+2)}
	s.Groups[1<<20].Name = "h"
	for g, want := range map[int]api.Errno{0: api.OK, 1<<20 - 1: api.OK, 1 << 20: api.OK, 1<<20 + 1: api.ErrArg, 1<<20 + 2: api.ErrGroup} {
		if code := holdPublish(t, s, "b", []api.Entry{{Group: g}}); code != want {
			t.Errorf("%d: %d, not %d", g, code, want)
		}
	}
	if text, log, code := Publish(s, "b", []api.Entry{{Group: 1 << 20}}); text != "Test run of s\nBoard b\ngroup h\n# end\n" || log != "Log of s\nBoard b\ngroup h\nend\n" || code != api.OK {
		t.Errorf("%q, %q, %d", text, log, code)
	}
}

// TestAnySuites has entries of many suites, in any order, some of them changed. The .sum is read again by layer 20.
func TestAnySuites(t *testing.T) { // P22.1
	r := rand.New(rand.NewSource(2))
	codes := map[api.Errno]int{}
	for range 30000 {
		s := someSuite(r)
		var es []api.Entry
		for range r.Intn(5) {
			if len(s.Groups) > 0 {
				es = append(es, someEntry(r, s))
			}
		}
		if len(es) > 0 && r.Intn(2) == 0 {
			i := r.Intn(len(es))
			others := turned(es[i])
			es[i] = others[r.Intn(len(others))]
		}
		if len(es) > 0 && r.Intn(4) == 0 {
			es[r.Intn(len(es))].Group = r.Intn(6) - 1
		}
		board := append([]string{""}, someNames...)[r.Intn(1+len(someNames))]
		codes[holdPublish(t, s, board, es)]++
		text, _, code := Publish(s, board, es)
		if code != api.OK {
			continue
		}
		got, code, _ := sum.Parse(text)
		if code != api.OK || got.Suite != s.Name || got.Board != board || len(got.Parts) != len(es) {
			t.Fatalf("%q: %v", text, got)
		}
		for i, p := range got.Parts {
			if p.Group != s.Groups[es[i].Group].Name || !slices.Equal(p.Results, es[i].Results) {
				t.Fatalf("%q: %v, not %v", text, p, es[i])
			}
		}
	}
	if len(codes) != 3 || codes[api.OK] < 5000 || codes[api.ErrArg] < 5000 || codes[api.ErrGroup] < 1000 {
		t.Error(codes)
	}
}
