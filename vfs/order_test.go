package vfs

import (
	"math/rand"
	"slices"
	"strings"
	"testing"

	"colloquy/api"
)

// plain is a disk as the document tells it: a list of files, by their names, whose room is counted anew each time.
type plain struct {
	files []plainFile
	room  int
	off   bool
	steps int // till the power goes; below 1: it doesn't
}

type plainFile struct{ name, safe, torn string }

// call is a call of a disk, and what it is handed.
type call struct {
	what     string
	name, to string
	b        string
	n        int
	keep     []int
}

func (m *plain) at(name string) int {
	return slices.IndexFunc(m.files, func(f plainFile) bool { return f.name == name })
}

func (m *plain) left() int {
	left := m.room
	for _, f := range m.files {
		left -= len(f.safe) + len(f.torn)
	}
	return left
}

// refuse is the first error of a call, in the order of the document.
func (m *plain) refuse(c call) api.Errno {
	made := map[string]string{"Create": c.name, "Rename": c.to}
	name, makes := made[c.what]
	at := m.at(c.name)
	switch {
	case m.off:
		return api.ErrDown
	case makes && (len(name) == 0 || len(name) > 40):
		return api.ErrArg
	case c.what != "Create" && at < 0:
		return api.ErrNone
	case c.what == "Create" && at >= 0:
		return api.ErrTwice
	case c.what == "Cut" && (c.n < 0 || c.n > len(m.files[at].safe+m.files[at].torn)):
		return api.ErrArg
	case c.what == "Append" && len(c.b) > m.left():
		return api.ErrRoom
	}
	m.steps--
	if m.steps == 0 {
		m.off = true
		return api.ErrDown
	}
	return api.OK
}

func (m *plain) do(c call) api.Errno {
	switch c.what {
	case "Fail":
		m.steps = c.n
		return api.OK
	case "Crash":
		m.crash(c.keep)
		return api.OK
	}
	if code := m.refuse(c); code != api.OK {
		return code
	}
	at := m.at(c.name)
	switch c.what {
	case "Create":
		m.files = append(m.files, plainFile{name: c.name})
	case "Append":
		m.files[at].torn += c.b
	case "Sync":
		m.files[at].safe += m.files[at].torn
		m.files[at].torn = ""
	case "Rename":
		f := m.files[at]
		f.name = c.to
		m.files = slices.DeleteFunc(m.files, func(f plainFile) bool { return f.name == c.name || f.name == c.to })
		m.files = append(m.files, f)
	case "Cut":
		f := &m.files[at]
		whole := f.safe + f.torn
		f.safe = f.safe[:min(len(f.safe), c.n)]
		f.torn = whole[len(f.safe):c.n]
	case "Remove":
		m.files = slices.Delete(m.files, at, at+1)
	}
	slices.SortFunc(m.files, func(a, b plainFile) int { return strings.Compare(a.name, b.name) })
	return api.OK
}

func (m *plain) crash(keep []int) {
	m.off, m.steps = false, 0
	for i := range m.files {
		f := &m.files[i]
		if f.torn == "" {
			continue
		}
		if len(keep) > 0 {
			f.safe += f.torn[:min(max(0, keep[0]), len(f.torn))]
			keep = keep[1:]
		}
		f.torn = ""
	}
}

func (c call) on(d *FS) api.Errno {
	switch c.what {
	case "Create":
		return d.Create(c.name)
	case "Append":
		return d.Append(c.name, []byte(c.b))
	case "Sync":
		return d.Sync(c.name)
	case "Rename":
		return d.Rename(c.name, c.to)
	case "Cut":
		return d.Cut(c.name, c.n)
	case "Remove":
		return d.Remove(c.name)
	case "Fail":
		d.Fail(c.n)
	case "Crash":
		d.Crash(c.keep)
	}
	return api.OK
}

// same holds all that a disk tells against what the document's one does.
func same(t *testing.T, d *FS, m *plain, done []call) {
	t.Helper()
	var names []string
	used := 0
	for _, f := range m.files {
		names = append(names, f.name)
		used += len(f.safe + f.torn)
	}
	if got := d.Names(); !slices.Equal(got, names) || d.Down() != m.off || d.Room() != m.left() || used > m.room {
		t.Fatalf("%v: %q, down %v, room %d, not %q, %v, %d", done, got, d.Down(), d.Room(), names, m.off, m.left())
	}
	for _, name := range append(names, "none", "") {
		want, code := "", api.ErrNone
		if at := m.at(name); at >= 0 {
			want, code = m.files[at].safe+m.files[at].torn, api.OK
		}
		if m.off {
			want, code = "", api.ErrDown
		}
		if got, gotCode := d.Read(name); string(got) != want || gotCode != code {
			t.Fatalf("%v: Read(%q) = %q, %d, not %q, %d", done, name, got, gotCode, want, code)
		}
	}
}

func play(t *testing.T, room int, calls []call) {
	t.Helper()
	d, m := New(room), &plain{room: max(room, 0)}
	for i, c := range calls {
		got, want := c.on(d), m.do(c)
		if got != want {
			t.Fatalf("room %d, %v: the last one = %d, not %d", room, calls[:i+1], got, want)
		}
		same(t, d, m, calls[:i+1])
	}
}

func TestEveryOrder(t *testing.T) { // P7.1, P7.3
	some := []call{
		{what: "Create", name: "a"}, {what: "Create", name: "b"},
		{what: "Append", name: "a", b: "xy"}, {what: "Append", name: "b", b: "z"},
		{what: "Sync", name: "a"},
		{what: "Rename", name: "a", to: "b"}, {what: "Rename", name: "a", to: "a"}, {what: "Rename", name: "b", to: "a"},
		{what: "Cut", name: "a", n: 1},
		{what: "Remove", name: "a"},
		{what: "Fail", n: 2},
		{what: "Crash", keep: []int{1}},
	}
	const long = 4
	ahead := []call{{what: "Create", name: "a"}, {what: "Append", name: "a", b: "pq"}}
	calls := make([]call, long)
	var fill func(at int)
	fill = func(at int) {
		if at == long {
			play(t, 4, append(slices.Clip(ahead), calls...))
			return
		}
		for _, c := range some {
			calls[at] = c
			fill(at + 1)
		}
	}
	fill(0)
}

func anyCall(r *rand.Rand) call {
	names := []string{"a", "b", "c", "a", "b", "c", "a", "b", "c", "", strings.Repeat("n", 40), strings.Repeat("n", 41)}
	kinds := []string{"Create", "Create", "Append", "Append", "Append", "Append", "Sync", "Sync", "Rename", "Cut", "Remove", "Fail", "Crash"}
	c := call{what: kinds[r.Intn(len(kinds))], name: names[r.Intn(len(names))], to: names[r.Intn(len(names))], n: r.Intn(9) - 2}
	for range r.Intn(5) {
		c.b += string(rune('a' + r.Intn(26)))
	}
	for range r.Intn(4) {
		c.keep = append(c.keep, r.Intn(7)-2)
	}
	return c
}

func TestAnyCalls(t *testing.T) { // P7.1, P7.3
	r := rand.New(rand.NewSource(1))
	for range 3000 {
		calls := make([]call, 60)
		for i := range calls {
			calls[i] = anyCall(r)
		}
		play(t, r.Intn(30)-2, calls)
	}
}

// known is what must be there of a file: what was synced of it, and all that it has been since.
type known struct{ synced, whole string }

// TestSyncedStays knows of a file only what was written to it and synced.
func TestSyncedStays(t *testing.T) { // P7.2
	r := rand.New(rand.NewSource(2))
	for range 2000 {
		d := New(40)
		files := map[string]known{}
		for range 60 {
			c := anyCall(r)
			f := files[c.name]
			if c.on(d) == api.OK {
				switch c.what {
				case "Create":
					files[c.name] = known{}
				case "Append":
					files[c.name] = known{f.synced, f.whole + c.b}
				case "Sync":
					files[c.name] = known{f.whole, f.whole}
				case "Rename":
					delete(files, c.name)
					files[c.to] = f
				case "Cut":
					files[c.name] = known{f.synced[:min(len(f.synced), c.n)], f.whole[:c.n]}
				case "Remove":
					delete(files, c.name)
				case "Crash":
					checkBehindCrash(t, d, files)
				}
			}
			if len(d.Names()) != len(files) {
				t.Fatalf("%q, not %d files", d.Names(), len(files))
			}
		}
	}
}

// checkBehindCrash holds the files against what is known of them, and takes what is left as known.
func checkBehindCrash(t *testing.T, d *FS, files map[string]known) {
	t.Helper()
	for _, name := range d.Names() {
		b, code := d.Read(name)
		f, there := files[name]
		got := string(b)
		if code != api.OK || !there || !strings.HasPrefix(got, f.synced) || !strings.HasPrefix(f.whole, got) {
			t.Fatalf("Read(%q) = %q, %d; synced was %q, written %q", name, got, code, f.synced, f.whole)
		}
		files[name] = known{got, got}
	}
}

func TestManyFiles(t *testing.T) { // P1
	d := New(1 << 20)
	name := func(i int) string {
		return strings.Repeat("x", i%30) + string(rune('a'+i%26)) + strings.Repeat("y", i/900)
	}
	made := 0
	for i := range 9000 {
		if d.Create(name(i)) == api.OK {
			made++
			ok(t, d.Append(name(i), []byte("torn")))
		}
	}
	hasRoom(t, d, 1<<20-4*made)
	d.Crash(slices.Repeat([]int{1}, made))
	hasRoom(t, d, 1<<20-made)
	if got := d.Names(); len(got) != made || !slices.IsSorted(got) {
		t.Errorf("%d names, not %d", len(got), made)
	}
}
