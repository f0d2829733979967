package journal

import (
	"bytes"
	"encoding/binary"
	"hash/crc32"
	"math/rand"
	"slices"
	"testing"

	"colloquy/api"
	"colloquy/vfs"
)

// plain is a journal and its file as the document tells them: the records that stand in the file, how many of them are safe, and the steps till the power goes.
type plain struct {
	there []pair // in the file's order
	known []pair // what the journal that is open has
	safe  int
	room  int
	made  bool
	off   bool
	fuse  int
}

func (m *plain) step() api.Errno {
	m.fuse--
	if m.fuse == 0 {
		m.off = true
	}
	if m.off {
		return api.ErrDown
	}
	return api.OK
}

// open is what Open does where the file holds nothing but records.
func (m *plain) open() api.Errno {
	if m.off {
		return api.ErrDown
	}
	if !m.made {
		if code := m.step(); code != api.OK {
			return code
		}
		m.made = true
	}
	return m.sync()
}

func (m *plain) sync() api.Errno {
	if m.off {
		return api.ErrDown
	}
	code := m.step()
	if code == api.OK {
		m.safe = len(m.there)
	}
	return code
}

func (m *plain) put(p pair) api.Errno {
	used := len(recordsOf(append(slices.Clip(m.there), p)...))
	switch {
	case p.key < 0 || p.key > 1<<40:
		return api.ErrArg
	case slices.ContainsFunc(m.known, func(q pair) bool { return q.key == p.key }):
		return api.ErrTwice
	case m.off:
		return api.ErrDown
	case used > m.room:
		return api.ErrRoom
	}
	if code := m.step(); code != api.OK {
		return code
	}
	m.there = append(m.there, p)
	m.known = slices.Clone(m.there)
	return api.OK
}

// crash keeps some bytes: the records that are whole then stand there.
func (m *plain) crash(keep int) {
	m.off, m.fuse = false, 0
	left := len(recordsOf(m.there[:m.safe]...)) + max(keep, 0)
	for m.safe < len(m.there) && len(recordsOf(m.there[:m.safe+1]...)) <= left {
		m.safe++
	}
	m.there = m.there[:m.safe]
}

// openUntil opens a journal, on both, with as many crashes between as it takes.
func (m *plain) openUntil(t *testing.T, d *vfs.FS, fail int) *Journal {
	t.Helper()
	for {
		d.Fail(fail)
		m.fuse = fail
		j, code := Open(d, file)
		// The torn part of a record is cut by a step that the model hasn't: it may be the one at which the power goes.
		if want := m.open(); code == api.OK && want == api.OK {
			m.known = slices.Clone(m.there)
			d.Fail(0)
			m.fuse = 0
			return j
		} else if code != api.ErrDown || j != nil {
			t.Fatalf("Open = %v, %d, not %d", j, code, want)
		}
		d.Crash(nil)
		m.crash(0)
		m.made = len(d.Names()) > 0
		fail++
	}
}

func TestAnyOrder(t *testing.T) { // P9.1, P9.2
	r := rand.New(rand.NewSource(1))
	keys := []int64{-1, 0, 1, 2, 3, 4, 5, 6, 7, 8, 127, 128, 1 << 40, 1<<40 + 1}
	for range 2000 {
		m := &plain{room: r.Intn(400)}
		d := vfs.New(m.room)
		j := m.openUntil(t, d, r.Intn(3))
		for range 40 {
			switch r.Intn(10) {
			case 0:
				is(t, "Sync", j.Sync(), m.sync())
			case 1:
				n := r.Intn(6) - 1
				d.Fail(n)
				m.fuse = max(n, 0)
			case 2:
				keep := r.Intn(60) - 5
				d.Crash([]int{keep})
				m.crash(keep)
				j = m.openUntil(t, d, r.Intn(4))
			default:
				data := make([]byte, r.Intn(30))
				r.Read(data)
				p := pair{keys[r.Intn(len(keys))], string(data)}
				is(t, "Put", j.Put(p.key, data), m.put(p))
			}
			has(t, j, m.known...)
			if b, code := d.Read(file); m.off != (code == api.ErrDown) || !m.off && !bytes.Equal(b, recordsOf(m.there...)) {
				t.Fatalf("the file is %v, %d, not %v", b, code, m.there)
			}
		}
	}
}

// readPlainly are the records with which bytes begin, by the library's numbers and sums.
func readPlainly(b []byte) []pair {
	var pairs []pair
	for len(b) >= 8 {
		size := binary.LittleEndian.Uint32(b)
		if uint64(size) > uint64(len(b)-8) || crc32.ChecksumIEEE(b[8:8+size]) != binary.LittleEndian.Uint32(b[4:]) {
			break
		}
		payload := b[8 : 8+size]
		key, n := binary.Uvarint(payload)
		if n < 1 || key > 1<<40 || len(binary.AppendUvarint(nil, key)) != n || slices.ContainsFunc(pairs, func(p pair) bool { return p.key == int64(key) }) {
			break
		}
		pairs = append(pairs, pair{int64(key), string(payload[n:])})
		b = b[8+size:]
	}
	return pairs
}

// anyFile is a file's bytes: records, of which some are wrong, and other bytes.
func anyFile(r *rand.Rand) []byte {
	var b []byte
	for range r.Intn(6) {
		data := make([]byte, r.Intn(20))
		r.Read(data)
		switch r.Intn(12) {
		case 0:
			b = append(b, data...)
		case 1:
			b = binary.LittleEndian.AppendUint32(b, uint32(len(data)))
			b = binary.LittleEndian.AppendUint32(b, crc32.ChecksumIEEE(data))
			b = append(b, data...)
		default:
			b = append(b, record(r.Int63()>>(22+r.Intn(41)), string(data))...)
		}
	}
	for range r.Intn(4) / 3 * r.Intn(3) {
		if len(b) > 0 {
			b[r.Intn(len(b))] ^= byte(1 << r.Intn(8))
		}
	}
	return b[:len(b)-len(b)*r.Intn(4)/3/(1+r.Intn(9))]
}

func TestAnyBytes(t *testing.T) { // P9.1, P9.3
	r := rand.New(rand.NewSource(2))
	all := 0
	for range 20000 {
		b := anyFile(r)
		want := readPlainly(b)
		d := diskWith(t, b, r.Intn(len(b)+1))
		has(t, opened(t, d), want...)
		holds(t, d, b[:len(recordsOf(want...))])
		has(t, opened(t, d), want...)
		d.Crash(nil)
		has(t, opened(t, d), want...)
		all += len(want)
	}
	if all < 20000 {
		t.Errorf("only %d records in all", all)
	}
}

func TestManyRecords(t *testing.T) { // P1
	const many = 50000
	d := vfs.New(1 << 30)
	j := opened(t, d)
	for i := range int64(many) {
		is(t, "Put", j.Put(i*7919%many, []byte{byte(i)}), api.OK)
	}
	for range 2 {
		keys := j.Keys()
		if len(keys) != many || !slices.IsSorted(keys) || keys[0] != 0 || keys[many-1] != many-1 {
			t.Fatalf("%d keys", len(keys))
		}
		j = opened(t, d)
	}
}
