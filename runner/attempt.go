package runner

import (
	"slices"

	"colloquy/api"
	"colloquy/cnum"
	"colloquy/line"
	"colloquy/talk"
	"colloquy/trace"
)

// attempt is a test that is being done. Its methods that do something tell whether an event has decided: then the test is over.
type attempt struct {
	*runner
	bound   int64
	matched string // last
	events  []api.Event
	looks   map[look]talk.Clause // that were made ready: a loop's steps wait for the same again and again
}

// look is what a clause looks for.
type look struct {
	kind int
	text string
}

// told are the events' kinds, at those of the outcomes that have a clause, or -1.
var told = [...]int{talk.Matched: api.Matched, talk.Filled: api.Filled, talk.Over: api.Over, talk.Dead: api.Dead, talk.TimedOut: api.TimedOut}

// steps does steps, one behind the other.
func (a *attempt) steps(ss []api.Step) bool {
	return slices.ContainsFunc(ss, a.step)
}

func (a *attempt) step(s api.Step) bool {
	if a.starved() {
		return true
	}
	switch s.Kind {
	case api.Send:
		a.session.Send([]byte(s.Text))
		return a.note(api.Event{Kind: api.Sent, Text: s.Text})
	case api.Expect:
		return a.expect(s)
	case api.Loop:
		return a.loop(s)
	case api.Near:
		return a.near(s)
	case api.Pass:
		return a.note(api.Event{Kind: api.Passed})
	case api.Fail:
		return a.note(api.Event{Kind: api.Failed})
	case api.Wait:
		return a.wait(s)
	}
	return false
}

// starved takes one fuel; if there is none, that decides.
func (a *attempt) starved() bool {
	if a.fuel == 0 {
		return a.note(api.Event{Kind: api.NoFuel})
	}
	a.fuel--
	return false
}

// note puts an event behind the others.
func (a *attempt) note(e api.Event) bool {
	e.At = a.session.Now()
	a.events = append(a.events, e)
	return trace.Decides(e)
}

func (a *attempt) expect(s api.Step) bool {
	ready, ok := a.ready(s.Clauses)
	if !ok {
		return a.note(api.Event{Kind: api.Spent})
	}
	for {
		e := event(talk.Wait(a.session.Line, a.session.said, ready, a.behind(s.N), a.bound))
		if a.note(e) {
			return true
		}
		if e.Kind == api.Matched {
			a.matched = e.Text
		}
		clause := s.Clauses[e.N] // an event without one has decided
		if a.steps(clause.Steps) {
			return true
		}
		if !clause.Again {
			return false
		}
		if a.starved() {
			return true
		}
	}
}

func (a *attempt) loop(s api.Step) bool {
	for range s.N {
		if a.starved() || a.steps(s.Steps) {
			return true
		}
	}
	return false
}

func (a *attempt) near(s api.Step) bool {
	z, _, _, ok := cnum.Find(a.matched)
	if ok && cnum.Near(z, s.Z, s.Tol) {
		return a.note(api.Event{Kind: api.Close})
	}
	return a.note(api.Event{Kind: api.Far})
}

func (a *attempt) wait(s api.Step) bool {
	until := a.behind(s.N)
	what, said := a.session.Next(min(until, a.bound))
	for what == line.Chunk {
		a.session.said.Put(said)
		what, said = a.session.Next(min(until, a.bound))
	}
	if what == line.Late && a.bound < until {
		return a.note(api.Event{Kind: api.Spent})
	}
	return a.note(api.Event{Kind: api.Waited, N: s.N})
}

// behind is the time so many ticks behind now.
func (a *attempt) behind(ticks int) int64 {
	return a.session.Now() + int64(ticks)
}

// ready is clauses as they are waited for; false: one of them can't be made ready.
func (a *attempt) ready(cs []api.Clause) ([]talk.Clause, bool) {
	var ready []talk.Clause
	for i, c := range cs {
		key := look{c.Kind, c.Text}
		if _, known := a.looks[key]; !known {
			made, code := talk.Compile(cs[i : i+1])
			if code != api.OK {
				return nil, false
			}
			a.looks[key] = made[0]
		}
		ready = append(ready, a.looks[key])
	}
	return ready, true
}

// event is the event of a wait's outcome, without its time.
func event(o talk.Outcome) api.Event {
	if o.Kind == talk.Spent {
		return api.Event{Kind: api.Spent}
	}
	return api.Event{Kind: told[o.Kind], N: o.Clause, Text: string(o.Text)}
}
