package pack

import "colloquy/api"

// Reader reads bytes from the first one on.
type Reader struct {
	rest    []byte
	reading bool // the Read that has made it isn't over
	refused bool // a call has found other bytes than it reads
}

// refusal is what a Reader panics with: where one Read stands in another's function, each must know its own.
type refusal struct{ by *Reader }

// Read lets f read b; api.ErrForm: a call of its Reader found other bytes, or bytes are left behind f.
func Read(b []byte, f func(r *Reader)) api.Errno {
	r := &Reader{rest: b, reading: true}
	defer r.end()
	if !r.lets(f) || r.Left() > 0 {
		return api.ErrForm
	}
	return api.OK
}

// Num reads a number.
func (r *Reader) Num() int64 {
	n, size := number(r.rest)
	r.Need(size > 0)
	r.rest = r.rest[size:]
	return n
}

// Int reads a number from 0 to most.
func (r *Reader) Int(most int) int {
	n, size := number(r.rest)
	r.Need(size > 0 && n <= int64(most))
	r.rest = r.rest[size:]
	return int(n)
}

// Text reads a text of at most most bytes.
func (r *Reader) Text(most int) string {
	n, size := number(r.rest)
	r.Need(size > 0 && n <= int64(min(most, len(r.rest)-size)))
	behind := size + int(n)
	text := string(r.rest[size:behind])
	r.rest = r.rest[behind:]
	return text
}

// Need ends the reading, unless ok is true.
func (r *Reader) Need(ok bool) {
	// A function that recovers from a refusal isn't let go on by its next call either.
	r.refused = r.refused || !ok
	if r.refused && r.reading {
		panic(refusal{by: r})
	}
}

// Left is how many bytes are left.
func (r *Reader) Left() int {
	return len(r.rest)
}

// lets lets f read, and tells whether none of its calls was refused.
func (r *Reader) lets(f func(r *Reader)) (all bool) {
	if f == nil {
		return true
	}
	defer func() {
		switch cause := recover().(type) {
		case nil:
		case refusal:
			if cause.by != r { // the Read that it ends stands around this one
				panic(cause)
			}
		default:
			panic(cause)
		}
	}()
	f(r)
	return !r.refused
}

// end lets go of the bytes: a Reader that f has kept finds none behind its Read, where there is nothing to end by a panic.
func (r *Reader) end() {
	*r = Reader{}
}

// number is the number with which b begins, and how many bytes it has; 0: b begins with none.
func number(b []byte) (int64, int) {
	var n int64
	for at := range min(len(b), maxGroups) {
		n |= int64(b[at]%more) << (groupBits * at)
		if b[at] >= more {
			continue
		}
		if n > maxNum || at > 0 && b[at] == 0 {
			return 0, 0
		}
		return n, at + 1
	}
	return 0, 0
}
