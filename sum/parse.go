package sum

import (
	"strings"

	"colloquy/api"
	"colloquy/name"
	"colloquy/trace"
)

// reader takes a text line by line.
type reader struct {
	rest string
	at   int // how many lines were taken
}

// Parse is the sum whose text this is; api.ErrForm, and the line that can't be taken: it is none's.
func Parse(text string) (Sum, api.Errno, int) {
	r := &reader{rest: text}
	s, ok := r.sum()
	if !ok || r.rest != "" {
		return Sum{}, api.ErrForm, r.at
	}
	return s, api.OK, 0
}

// sum takes a sum's lines; false: there is one that can't be taken.
func (r *reader) sum() (s Sum, ok bool) {
	if s.Suite, ok = r.named(suiteWord); !ok {
		return s, false
	}
	if s.Board, ok = r.named(boardWord); !ok {
		return s, false
	}
	for group, more := r.named(groupWord); more; group, more = r.named(groupWord) {
		s.Parts = append(s.Parts, Part{Group: group, Results: r.results()})
	}
	// Only now is it known which counts are the right ones.
	for _, line := range tail(s) {
		if next, ended := r.next(); !ended || next != line {
			return s, false
		}
		r.take()
	}
	return s, true
}

// results takes as many lines as are results'.
func (r *reader) results() []api.Result {
	var all []api.Result
	for next, more := r.result(); more; next, more = r.result() {
		all = append(all, next)
	}
	return all
}

// result takes a line, if it is a result's.
func (r *reader) result() (api.Result, bool) {
	line, ended := r.next()
	word, written, _ := strings.Cut(line, behindVerdict)
	v := trace.Parse(word)
	is, ok := name.Read(written)
	if !ended || v == 0 || !ok {
		return api.Result{}, false
	}
	r.take()
	return api.Result{Name: is, Verdict: v}, true
}

// named takes a line, if it is these words and a name, and is the name.
func (r *reader) named(words string) (string, bool) {
	line, ended := r.next()
	written, begins := strings.CutPrefix(line, words)
	is, ok := name.Read(written)
	if !ended || !begins || !ok {
		return "", false
	}
	r.take()
	return is, true
}

// next is the next line, without its byte 10; false: it has none.
func (r *reader) next() (string, bool) {
	line, _, ended := strings.Cut(r.rest, "\n")
	return line, ended
}

// take goes behind the next line.
func (r *reader) take() {
	_, r.rest, _ = strings.Cut(r.rest, "\n")
	r.at++
}
