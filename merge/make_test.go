package merge

import (
	"math/rand"
	"slices"

	"colloquy/api"
)

// entry is an entry of a group of two tests, in which something has happened.
func entry(group int) api.Entry {
	return api.Entry{
		Group:   group,
		Results: []api.Result{{Name: "t", Verdict: api.PASS}, {Name: "u", Verdict: api.UNTESTED}, {Name: "v", Verdict: api.UNRESOLVED}},
		Traces:  [][]api.Event{{{Kind: api.Spawned}, {Kind: api.Matched, N: 1, Text: "a", At: 2}, {Kind: api.Passed, At: 2}}, nil, {{Kind: api.Sent, Text: "b", At: 3}, {Kind: api.TimedOut, N: -1, At: 5}}},
	}
}

// cloned is an entry with lists of its own; empty ones are nil or not, as empty says.
func cloned(e api.Entry, empty bool) api.Entry {
	list := func(es []api.Event) []api.Event {
		if empty {
			return append([]api.Event{}, es...)
		}
		return append([]api.Event(nil), es...)
	}
	c := api.Entry{Group: e.Group, Results: append([]api.Result(nil), e.Results...)}
	if empty {
		c.Results, c.Traces = append([]api.Result{}, e.Results...), [][]api.Event{}
	}
	for _, es := range e.Traces {
		c.Traces = append(c.Traces, list(es))
	}
	return c
}

// turned are entries that differ from one in one thing each.
func turned(e api.Entry) []api.Entry {
	var all []api.Entry
	turn := func(change func(c *api.Entry)) {
		c := cloned(e, len(all)%2 == 0)
		change(&c)
		// What stands the other way round may be the same.
		if told(c) != told(e) {
			all = append(all, c)
		}
	}
	turn(func(c *api.Entry) { c.Results = append(c.Results, api.Result{}) })
	turn(func(c *api.Entry) { c.Traces = append(c.Traces, nil) })
	turn(func(c *api.Entry) { c.Traces = append(c.Traces, []api.Event{}) })
	turn(func(c *api.Entry) { c.Traces = slices.Insert(c.Traces, 0, nil) })
	for i := range e.Results {
		turn(func(c *api.Entry) { c.Results[i].Name += "\x00" })
		turn(func(c *api.Entry) { c.Results[i].Name = "" })
		turn(func(c *api.Entry) { c.Results[i].Verdict++ })
		turn(func(c *api.Entry) { c.Results[i].Verdict += 1 << 32 })
		turn(func(c *api.Entry) { c.Results = slices.Delete(c.Results, i, i+1) })
	}
	for i, es := range e.Traces {
		turn(func(c *api.Entry) { c.Traces[i] = append(c.Traces[i], api.Event{}) })
		turn(func(c *api.Entry) { c.Traces = slices.Delete(c.Traces, i, i+1) })
		if len(es) > 0 {
			turn(func(c *api.Entry) { c.Traces[i] = nil })
			turn(func(c *api.Entry) { c.Traces[i] = c.Traces[i][:len(es)-1] })
			next := (i + 1) % len(e.Traces)
			turn(func(c *api.Entry) { c.Traces[i], c.Traces[next] = c.Traces[next], c.Traces[i] })
			turn(func(c *api.Entry) { slices.Reverse(c.Traces[i]) })
		}
		for j := range es {
			turn(func(c *api.Entry) { c.Traces[i][j].Kind++ })
			turn(func(c *api.Entry) { c.Traces[i][j].N++ })
			turn(func(c *api.Entry) { c.Traces[i][j].N -= 1 << 32 })
			turn(func(c *api.Entry) { c.Traces[i][j].Text += "\x00" })
			turn(func(c *api.Entry) { c.Traces[i][j].At++ })
			turn(func(c *api.Entry) { c.Traces[i][j].At += 1 << 32 })
		}
	}
	turn(func(c *api.Entry) { slices.Reverse(c.Results) })
	turn(func(c *api.Entry) { slices.Reverse(c.Traces) })
	return all
}

// someNames are names, the most of which must be written with signs.
var someNames = []string{"t", "u", "a b", " ", "\n", "x\n# end", "PASS: t", "group g", "\xff", "\\"}

// someTrace is a trace that is right.
func someTrace(r *rand.Rand) []api.Event {
	var es []api.Event
	for at := range r.Intn(4) {
		es = append(es, []api.Event{{Kind: api.Sent, Text: "a\nend"}, {Kind: api.Matched, N: r.Intn(3), Text: "\""}, {Kind: api.Over}, {Kind: api.Close}, {Kind: api.Waited, N: 7}}[r.Intn(5)])
		es[at].At = int64(at)
	}
	last := []api.Event{{Kind: api.Passed, At: 9}, {Kind: api.TimedOut, N: -1, At: 9}, {Kind: api.Spawned, N: 2}, {Kind: api.Spent, At: 9}}
	if i := r.Intn(5); i < len(last) {
		es = append(es, last[i])
	}
	return es
}

// someSuite is a suite with some groups; they may have no tests.
func someSuite(r *rand.Rand) api.Suite {
	pick := func() string { return someNames[r.Intn(len(someNames))] }
	s := api.Suite{Name: pick()}
	for range r.Intn(4) {
		g := api.Group{Name: pick()}
		for range r.Intn(4) {
			g.Tests = append(g.Tests, api.Test{Name: pick(), Budget: 5})
		}
		s.Groups = append(s.Groups, g)
	}
	return s
}

// someEntry is an entry of a group of a suite that has one.
func someEntry(r *rand.Rand, s api.Suite) api.Entry {
	e := api.Entry{Group: r.Intn(len(s.Groups))}
	for _, t := range s.Groups[e.Group].Tests {
		e.Results = append(e.Results, api.Result{Name: t.Name, Verdict: 1 + r.Intn(7)})
		e.Traces = append(e.Traces, someTrace(r))
	}
	return e
}
