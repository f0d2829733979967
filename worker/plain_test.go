package worker

import (
	"encoding/binary"
	"hash/crc32"
	"slices"

	"colloquy/api"
)

// plainEntry are an entry's bytes by the words of layer 21, with numbers as the library writes them.
func plainEntry(e api.Entry) []byte {
	num := func(b []byte, n int64) []byte { return binary.AppendUvarint(b, uint64(n)) }
	text := func(b []byte, s string) []byte { return append(num(b, int64(len(s))), s...) }
	b := num(num(nil, int64(e.Group)), int64(len(e.Results)))
	for i, r := range e.Results {
		b = num(num(text(b, r.Name), int64(r.Verdict)), int64(len(e.Traces[i])))
		for _, x := range e.Traces[i] {
			b = text(num(num(num(b, int64(x.Kind)), int64(x.N)+1), x.At), x.Text)
		}
	}
	return b
}

// plainRecord are the bytes of a journal's record.
func plainRecord(key int, data []byte) []byte {
	payload := append(binary.AppendUvarint(nil, uint64(key)), data...)
	b := binary.LittleEndian.AppendUint32(nil, uint32(len(payload)))
	b = binary.LittleEndian.AppendUint32(b, crc32.ChecksumIEEE(payload))
	return append(b, payload...)
}

// record is a group's record in a journal.
type record struct {
	group int
	data  []byte
}

func recordsOf(rs []record) []byte {
	var b []byte
	for _, r := range rs {
		b = append(b, plainRecord(r.group, r.data)...)
	}
	return b
}

// plainDisk is a disk with one journal, as layers 7 and 9 tell them.
type plainDisk struct {
	there []record
	safe  int // how many of the records
	room  int
	off   bool
	fuse  int // how many steps it is till the power goes; 0: it doesn't
	gone  bool
}

func (d *plainDisk) fails() bool {
	d.fuse--
	d.off = d.off || d.fuse == 0
	return d.off
}

func (d *plainDisk) put(r record) api.Errno {
	switch {
	case slices.ContainsFunc(d.there, func(x record) bool { return x.group == r.group }):
		return api.ErrTwice
	case d.off:
		return api.ErrDown
	case d.gone:
		return api.ErrNone
	case len(recordsOf(d.there))+len(plainRecord(r.group, r.data)) > d.room:
		return api.ErrRoom
	case d.fails():
		return api.ErrDown
	}
	d.there = append(d.there, r)
	return api.OK
}

func (d *plainDisk) sync() api.Errno {
	switch {
	case d.off:
		return api.ErrDown
	case d.gone:
		return api.ErrNone
	case d.fails():
		return api.ErrDown
	}
	d.safe = len(d.there)
	return api.OK
}

// crash keeps some bytes of what isn't safe; of the records those that are whole then.
func (d *plainDisk) crash(keep int) {
	d.off, d.fuse = false, 0
	left := len(recordsOf(d.there[:d.safe])) + max(keep, 0)
	for d.safe < len(d.there) && len(recordsOf(d.there[:d.safe+1])) <= left {
		d.safe++
	}
	d.there = d.there[:d.safe]
}

// plainWorker is a worker as the chapter tells it: a list of the steps that are still to be done.
type plainWorker struct {
	disk      *plainDisk
	todo      []string
	groups    []int
	run       func(group int) (data []byte, right bool)
	stuck     api.Errno
	held      []byte
	ran, done []int
}

func plainNew(d *plainDisk, groups []int, run func(group int) ([]byte, bool)) *plainWorker {
	w := &plainWorker{disk: d, groups: slices.Clone(groups), run: run}
	for range groups {
		w.todo = append(w.todo, "run", "put", "sync")
	}
	return w
}

func (w *plainWorker) step() api.Errno {
	if w.stuck != api.OK {
		return w.stuck
	}
	if len(w.todo) == 0 {
		return api.ErrNone
	}
	group := w.groups[len(w.done)]
	switch w.todo[0] {
	case "run":
		data, right := w.run(group)
		w.held, w.ran = data, append(w.ran, group)
		if !right {
			w.stuck = api.ErrArg
		}
	case "put":
		w.stuck = w.disk.put(record{group, w.held})
	case "sync":
		w.stuck = w.disk.sync()
		if w.stuck == api.OK {
			w.done = append(w.done, group)
		}
	}
	w.todo = w.todo[1:]
	return w.stuck
}

func (w *plainWorker) finished() bool {
	return w.stuck == api.OK && len(w.todo) == 0
}
