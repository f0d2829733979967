package runner

import (
	"regexp"
	"strings"

	"colloquy/api"
)

// plain is a group's run as the chapters tell it: the time goes tick by tick, and a test that is over does nothing more.
type plain struct {
	streams    []api.Stream
	most, fuel int
	opened     int
	open       bool
	coming     []thing
	there      string
	now, ticks int64

	bound   int64
	matched string
	events  []api.Event
	over    bool
}

// thing is something that a board does, and when.
type thing struct {
	what int
	text string
	at   int64
}

// What a board does.
const (
	says = iota
	ends
	dies
	nothing
)

func plainRun(number int, g api.Group, b api.Board, streams []api.Stream, c Conf) Report {
	p := &plain{streams: streams, most: between(1, c.Buffer, 2000), fuel: between(0, c.Fuel, 100000)}
	r := Report{Entry: api.Entry{Group: number}}
	for _, t := range g.Tests {
		p.events, p.over, p.matched = nil, false, ""
		if t.Kind == 0 {
			p.test(t)
		}
		v := plainVerdict(t, p.events, b)
		if v == 5 {
			p.close()
		}
		r.Entry.Results = append(r.Entry.Results, api.Result{Name: t.Name, Verdict: v})
		r.Entry.Traces = append(r.Entry.Traces, p.events)
	}
	p.close()
	r.Sessions, r.Fuel, r.Ticks = p.opened, p.fuel, p.ticks
	return r
}

func between(least, n, most int) int {
	if n < least {
		return least
	}
	if n > most {
		return most
	}
	return n
}

func plainVerdict(t api.Test, es []api.Event, b api.Board) int {
	xfail := false
	for _, c := range t.Xfail {
		xfail = xfail || plainHolds(c, b)
	}
	last := 0
	if len(es) > 0 {
		last = es[len(es)-1].Kind
	}
	switch {
	case t.Kind == 1:
		return 6
	case t.Kind == 2:
		return 7
	case last == 12 && xfail:
		return 3
	case last == 12:
		return 1
	case (last == 13 || last == 11) && xfail:
		return 4
	case last == 13 || last == 11:
		return 2
	}
	return 5
}

func plainHolds(c api.Cond, b api.Board) bool {
	is := false
	for i := len(b.Props) - 1; i >= 0; i-- {
		if b.Props[i].Name == c.Name {
			is = b.Props[i].Val == c.Val
		}
	}
	kids := 0
	for _, kid := range c.Kids {
		if plainHolds(kid, b) {
			kids++
		}
	}
	return [...]bool{false, is, !is, kids == 0, kids == len(c.Kids), kids > 0}[c.Kind]
}

func (p *plain) close() {
	if p.open {
		p.ticks += p.now
	}
	p.open, p.now, p.there, p.coming = false, 0, "", nil
}

func (p *plain) test(t api.Test) {
	if !p.open {
		p.open = true
		if p.opened < len(p.streams) {
			p.coming = things(p.streams[p.opened])
		}
		p.opened++
		p.tell(1, p.opened-1, "")
	}
	p.bound = p.now + int64(t.Budget)
	p.steps(t.Steps)
}

// things are what a board does in a session.
func things(s api.Stream) []thing {
	var all []thing
	at := int64(0)
	for _, c := range s.Chunks {
		at += int64(between(0, c.Wait, 1000000))
		all = append(all, thing{says, string(c.B), at})
	}
	at += int64(between(0, s.Wait, 1000000))
	switch s.End {
	case 1:
		all = append(all, thing{ends, "", at})
	case 2:
		all = append(all, thing{dies, "", at})
	}
	return all
}

func (p *plain) tell(kind, n int, text string) {
	p.events = append(p.events, api.Event{Kind: kind, N: n, Text: text, At: p.now})
	switch kind {
	case 5, 6, 7:
		p.over = n == -1
	case 8, 9, 11, 12, 13:
		p.over = true
	}
}

func (p *plain) steps(ss []api.Step) {
	for _, s := range ss {
		p.step(s)
	}
}

// pay takes one fuel.
func (p *plain) pay() {
	switch {
	case p.over:
	case p.fuel == 0:
		p.tell(9, 0, "")
	default:
		p.fuel--
	}
}

func (p *plain) step(s api.Step) {
	p.pay()
	if p.over {
		return
	}
	switch s.Kind {
	case 1:
		p.tell(2, 0, s.Text)
	case 2:
		p.expect(s)
	case 3:
		for n := s.N; n > 0 && !p.over; n-- {
			p.pay()
			p.steps(s.Steps)
		}
	case 4:
		if plainNear(p.matched, s) {
			p.tell(10, 0, "")
		} else {
			p.tell(11, 0, "")
		}
	case 5:
		p.tell(12, 0, "")
	case 6:
		p.tell(13, 0, "")
	case 7:
		p.wait(s.N)
	}
}

// plainNear knows of numbers only whole ones: that is all that the texts here have.
func plainNear(text string, s api.Step) bool {
	digits := regexp.MustCompile("[+-]?[0-9]+").FindString(text)
	if digits == "" {
		return false
	}
	sign, n := 1, 0
	for _, c := range digits {
		switch c {
		case '-':
			sign = -1
		case '+':
		default:
			n = 10*n + int(c-'0')
		}
	}
	apart := float64(sign*n) - real(s.Z)
	return apart <= s.Tol && -apart <= s.Tol && imag(s.Z) <= s.Tol && -imag(s.Z) <= s.Tol
}

// next is what comes by a tick.
func (p *plain) next(limit int64) thing {
	for {
		if len(p.coming) > 0 && p.coming[0].at <= p.now {
			x := p.coming[0]
			if x.what == says {
				p.coming = p.coming[1:]
			}
			return x
		}
		if p.now >= limit {
			return thing{what: nothing}
		}
		p.now++
	}
}

func (p *plain) put(text string) {
	p.there += text
	p.there = p.there[max(len(p.there)-p.most, 0):]
}

func (p *plain) wait(n int) {
	until := p.now + int64(n)
	for {
		x := p.next(min(until, p.bound))
		if x.what == says {
			p.put(x.text)
			continue
		}
		if x.what == nothing && p.bound < until {
			p.tell(8, 0, "")
		} else {
			p.tell(14, n, "")
		}
		return
	}
}

// expect waits once, and once more if that is asked for.
func (p *plain) expect(s api.Step) {
	kind, clause, text := p.come(s)
	p.tell(kind, clause, text)
	if kind == 3 {
		p.matched = text
	}
	if p.over {
		return
	}
	p.steps(s.Clauses[clause].Steps)
	if s.Clauses[clause].Again && !p.over {
		p.step(s)
	}
}

// come is how an Expect's wait ends: the event's kind, N and Text.
func (p *plain) come(s api.Step) (int, int, string) {
	until := p.now + int64(s.N)
	for put := false; ; put = true {
		for i, c := range s.Clauses {
			if at := place(c, p.there); at != nil {
				text := p.there[at[0]:at[1]]
				p.there = p.there[at[1]:]
				return 3, i, text
			}
		}
		if i := clauseOf(s, 7); put && i >= 0 && len(p.there) == p.most {
			text := p.there
			p.there = ""
			return 4, i, text
		}
		switch x := p.next(min(until, p.bound)); {
		case x.what == says:
			p.put(x.text)
		case x.what == ends:
			return 5, clauseOf(s, 5), ""
		case x.what == dies:
			return 6, clauseOf(s, 6), ""
		case p.bound < until:
			return 8, 0, ""
		default:
			return 7, clauseOf(s, 4), ""
		}
	}
}

// clauseOf is the first clause of a Kind.
func clauseOf(s api.Step, kind int) int {
	for i, c := range s.Clauses {
		if c.Kind == kind {
			return i
		}
	}
	return -1
}

var places = map[string]*regexp.Regexp{}

// place is where a clause's pattern is found, by the library; nil: nowhere, or it looks for none.
func place(c api.Clause, text string) []int {
	expr := c.Text
	switch c.Kind {
	case 1:
		expr = regexp.QuoteMeta(c.Text)
	case 2:
		expr = strings.NewReplacer("*", ".*", "?", ".", "[!", "[^").Replace(c.Text)
	case 4, 5, 6, 7:
		return nil
	}
	r := places[expr]
	if r == nil {
		r = regexp.MustCompile("(?s)" + expr)
		r.Longest()
		places[expr] = r
	}
	return r.FindStringIndex(text)
}
