package nfa

// Longest is the place behind the longest piece that begins at a place; -1: there is none.
func (p *Prog) Longest(text string, from int) int {
	p.steps = 0
	if from < 0 || from > len(text) {
		return -1
	}
	w := p.walk()
	w.reach(p.start, from, from)
	for at := from; at < len(text) && len(w.held) > 0; at++ {
		w.meet(text[at], at+1)
	}
	if !w.found {
		return -1
	}
	return w.to
}

// Find is the first place at which a piece begins, and the place behind the longest one there; false: there is none.
func (p *Prog) Find(text string) (int, int, bool) {
	p.steps = 0
	w := p.walk()
	w.reach(p.start, 0, 0)
	for at := 0; at < len(text) && len(w.held) > 0; at++ { // if nothing is found yet, nothing is held only where nothing can be found
		w.meet(text[at], at+1)
		if !w.found {
			w.reach(p.start, at+1, at+1)
		}
	}
	return w.from, w.to, w.found
}

// walk is a machine's way through a text.
//
// Of all pieces that are in one state at one place only the one that began first is held: they go on alike. So no state meets a byte twice, wherever pieces begin.
type walk struct {
	p          *Prog
	seen       []int   // of each state, 1 more than the last place at which it was reached
	held       []piece // what meets the next byte; those that began first come first
	spare      []piece
	found      bool // whether a piece is over, and which
	from, to   int
	unfollowed []int
}

// piece has come from a place to a state.
type piece struct{ from, state int }

func (p *Prog) walk() *walk {
	return &walk{p: p, seen: make([]int, len(p.states))}
}

// reach holds a piece that has come to a state at a place, in all states that it goes on to without a byte.
func (w *walk) reach(first, from, at int) {
	w.unfollowed = append(w.unfollowed, first)
	for len(w.unfollowed) > 0 {
		last := len(w.unfollowed) - 1
		s := w.unfollowed[last]
		w.unfollowed = w.unfollowed[:last]
		if w.seen[s] == at+1 {
			continue
		}
		w.seen[s] = at + 1
		switch {
		case s == end:
			w.found, w.from, w.to = true, from, at
		case w.p.states[s].fork:
			w.unfollowed = append(w.unfollowed, w.p.states[s].next...)
		default:
			w.held = append(w.held, piece{from: from, state: s})
		}
	}
}

// meet lets all that is held meet a byte, behind which is a place.
func (w *walk) meet(b byte, behind int) {
	met := w.held
	w.held = w.spare[:0]
	for _, x := range met {
		if w.found && x.from > w.from { // it and those behind it begin later than what is found
			break
		}
		w.p.steps++
		if s := &w.p.states[x.state]; s.bytes[b] {
			w.reach(s.next[0], x.from, behind)
		}
	}
	w.spare = met
}
