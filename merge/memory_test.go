package merge

import (
	"fmt"
	"slices"
	"testing"

	"colloquy/api"
)

// roomy is an entry in memory of its own, with some more behind each list's length.
func roomy(e api.Entry) api.Entry {
	c := api.Entry{Group: e.Group, Results: append(slices.Clone(e.Results), api.Result{Name: "#", Verdict: 77}, api.Result{Name: "#"})[:len(e.Results)]}
	c.Traces = append(slices.Clone(e.Traces), []api.Event{{Kind: 78}}, nil)[:len(e.Traces)]
	for i, es := range e.Traces {
		c.Traces[i] = append(slices.Clone(es), api.Event{Kind: 77})[:len(es)]
	}
	return c
}

// wide is all that an entry has, with what is behind its lists' lengths, as a text.
func wide(e api.Entry) string {
	e.Results = e.Results[:cap(e.Results)]
	e.Traces = slices.Clone(e.Traces[:cap(e.Traces)])
	for i, es := range e.Traces {
		e.Traces[i] = es[:cap(es)]
	}
	return told(e)
}

// overwrite writes over an entry's lists, with what is behind their lengths.
func overwrite(e api.Entry) {
	for i := range e.Results[:cap(e.Results)] {
		e.Results[:cap(e.Results)][i] = api.Result{Name: "#", Verdict: 77}
	}
	all := e.Traces[:cap(e.Traces)]
	for i, es := range all {
		for j := range es[:cap(es)] {
			es[:cap(es)][j] = api.Event{Kind: 77}
		}
		all[i] = []api.Event{{Kind: 77}}
	}
}

// roomyParts are entries 0 to 2 in two parts, with some more behind each list's length.
func roomyParts() [][]api.Entry {
	first := append([]api.Entry{roomy(entry(2)), roomy(entry(0))}, roomy(entry(77)))[:2]
	second := append([]api.Entry{roomy(entry(0)), roomy(entry(1))}, roomy(entry(78)))[:2]
	return append([][]api.Entry{first, second}, []api.Entry{roomy(entry(79))})[:2]
}

// wideParts is all that parts have, with what is behind their lists' lengths.
func wideParts(parts [][]api.Entry) string {
	out := ""
	for _, part := range parts[:cap(parts)] {
		for _, e := range part[:cap(part)] {
			out += wide(e) + "\n"
		}
		out += "\n"
	}
	return out
}

// roomySuite is a suite with some more behind each list's length.
func roomySuite() api.Suite {
	gs := append(someGroups(), api.Group{Name: "#"})
	for i, g := range gs {
		gs[i].Tests = append(g.Tests, api.Test{Name: "#"})[:len(g.Tests)]
	}
	return api.Suite{Name: "s", Boards: []api.Board{{Name: "b"}}, Groups: gs[:len(gs)-1]}
}

// wideSuite is all that a suite has, with what is behind its lists' lengths.
func wideSuite(s api.Suite) string {
	s.Groups = slices.Clone(s.Groups[:cap(s.Groups)])
	for i, g := range s.Groups {
		s.Groups[i].Tests = g.Tests[:cap(g.Tests)]
	}
	return fmt.Sprintf("%#v", s)
}

func TestArgumentsStay(t *testing.T) { // P22.3
	parts, s := roomyParts(), roomySuite()
	aheadParts, aheadSuite := wideParts(parts), wideSuite(s)
	wrong := []api.Entry{roomy(turned(entry(0))[0])}
	aheadWrong := wide(wrong[0])
	for _, n := range []int{-1, 0, 1, 2, 3, 4, 1 << 40} {
		Merge(n, parts)
		Merge(n, parts[:1])
		Merge(n, [][]api.Entry{parts[0][:1], wrong, parts[1]})
	}
	for _, part := range parts {
		Publish(s, "b", part)
		Publish(s, "", part)
		Publish(s, "b", append(wrong[:1:1], part...))
		for _, e := range part {
			Same(e, part[0])
			Same(wrong[0], e)
		}
	}
	if wideParts(parts) != aheadParts || wideSuite(s) != aheadSuite || wide(wrong[0]) != aheadWrong {
		t.Errorf("%v, %v, %v", parts, s, wrong)
	}
}

func TestNothingIsKept(t *testing.T) { // P22.3
	parts := roomyParts()
	es, code := Merge(3, parts)
	want := toldAll(es)
	s := roomySuite()
	text, log, _ := Publish(s, "b", parts[0])
	wantText, wantLog := string([]byte(text)), string([]byte(log))
	for _, part := range parts[:cap(parts)] {
		for i, e := range part[:cap(part)] {
			overwrite(e)
			part[:cap(part)][i] = api.Entry{Group: 77}
		}
	}
	clear(parts)
	for _, g := range s.Groups[:cap(s.Groups)] {
		clear(g.Tests[:cap(g.Tests)])
	}
	clear(s.Groups[:cap(s.Groups)])
	if code != api.OK || toldAll(es) != want || want != toldAll(groups(0, 1, 2)) || text != wantText || log != wantLog {
		t.Errorf("%v, %q, %q", es, text, log)
	}
	if es, code := Merge(3, roomyParts()); code != api.OK || toldAll(es) != want {
		t.Errorf("again: %v, %d", es, code)
	}
}

// TestAnswersAreNew writes over each list of an answer, with its spare room: neither another list of it, nor another answer, nor the argument changes. The entries handed in share all that they have.
func TestAnswersAreNew(t *testing.T) { // P22.3
	es := groups(0, 1, 2, 3)
	shared := roomy(entry(0))
	shared.Traces[1] = shared.Traces[0]
	for i := range es {
		es[i].Results, es[i].Traces = shared.Results, shared.Traces
	}
	ahead, all := wide(shared), toldAll(es)
	other, _ := Merge(4, [][]api.Entry{es, es})
	got, _ := Merge(4, [][]api.Entry{es, es})
	for i := range got {
		for j := range got[i].Results[:cap(got[i].Results)] {
			got[i].Results[:cap(got[i].Results)][j] = api.Result{Name: "#"}
		}
		got[i].Results = shared.Results
		holdTold(t, got, all)
		for j, trace := range got[i].Traces {
			for k := range trace[:cap(trace)] {
				trace[:cap(trace)][k] = api.Event{Kind: 77}
			}
			got[i].Traces[j] = shared.Traces[j]
			holdTold(t, got, all)
		}
		for j := range got[i].Traces[:cap(got[i].Traces)] {
			got[i].Traces[:cap(got[i].Traces)][j] = nil
		}
		got[i].Traces = shared.Traces
		holdTold(t, got, all)
	}
	clear(got[:cap(got)])
	holdTold(t, other, all)
	holdTold(t, es, all)
	if wide(shared) != ahead {
		t.Errorf("the argument is now %v", shared)
	}
}

func holdTold(t *testing.T, es []api.Entry, want string) {
	t.Helper()
	if toldAll(es) != want {
		t.Fatalf("%v, not %s", es, want)
	}
}
