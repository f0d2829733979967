package book

import (
	"colloquy/api"
	"colloquy/name"
	"colloquy/pack"
	"colloquy/trace"
)

// The bounds of what can be packed.
const (
	maxGroup = 1 << 20
	maxN     = 1 << 40
	maxAt    = 1 << 50
	maxText  = 1 << 20 // bytes
)

// Right tells whether an entry is right.
func Right(e api.Entry) bool {
	if e.Group < 0 || e.Group > maxGroup || len(e.Results) != len(e.Traces) {
		return false
	}
	for i, r := range e.Results {
		if !name.Right(r.Name) || trace.Text(r.Verdict) == "" || !rightTrace(e.Traces[i]) {
			return false
		}
	}
	return true
}

func rightTrace(es []api.Event) bool {
	for _, e := range es {
		if e.N > maxN || e.At > maxAt || len(e.Text) > maxText {
			return false
		}
	}
	return trace.Right(es)
}

// Pack is an entry's bytes; api.ErrArg: it isn't right.
func Pack(e api.Entry) ([]byte, api.Errno) {
	if !Right(e) {
		return nil, api.ErrArg
	}
	var b []byte
	// Layer 8's own calls would copy all that is ahead for each number.
	num := func(n int) { b = append(b, pack.Num(nil, int64(n))...) }
	text := func(s string) { b = append(b, pack.Text(nil, s)...) }
	num(e.Group)
	num(len(e.Results))
	for i, r := range e.Results {
		text(r.Name)
		num(r.Verdict)
		num(len(e.Traces[i]))
		for _, event := range e.Traces[i] {
			num(event.Kind)
			num(event.N + 1)
			num(int(event.At))
			text(event.Text)
		}
	}
	return b, api.OK
}

// Unpack is the right entry of just these bytes; api.ErrForm: there is none.
func Unpack(b []byte) (api.Entry, api.Errno) {
	var e api.Entry
	code := pack.Read(b, func(r *pack.Reader) {
		e.Group = r.Int(maxGroup)
		for range r.Num() {
			is := r.Text(api.MaxName)
			e.Results = append(e.Results, api.Result{Name: is, Verdict: r.Int(api.UNSUPPORTED)})
			e.Traces = append(e.Traces, events(r))
		}
		r.Need(Right(e))
	})
	if code != api.OK {
		return api.Entry{}, code
	}
	return e, api.OK
}

// events reads a trace.
func events(r *pack.Reader) []api.Event {
	var es []api.Event
	for range r.Num() {
		es = append(es, api.Event{Kind: r.Int(api.Waited), N: r.Int(maxN+1) - 1, At: r.Num(), Text: r.Text(maxText)})
	}
	return es
}
