package worker

import (
	"slices"
	"strings"
	"testing"

	"colloquy/api"
	"colloquy/vfs"
)

// stays: a worker is stuck with this error; nothing changes any more, with the power there and much room.
func stays(t *testing.T, w *Worker, r *witness, d *vfs.FS, want api.Errno) {
	t.Helper()
	d.Crash([]int{1 << 30})
	b, _ := d.Read(file)
	asked, ran, done, left := slices.Clone(r.asked), w.Ran(), w.Done(), w.Left()
	d.Fail(1)
	for range 7 {
		is(t, "Step", w.Step(), want)
	}
	if d.Down() {
		t.Fatalf("error %d: a step of the disk is done", want)
	}
	d.Fail(0)
	if now, _ := d.Read(file); string(now) != string(b) {
		t.Fatalf("error %d: the file is %v, not %v", want, now, b)
	}
	if !slices.Equal(r.asked, asked) || !slices.Equal(w.Ran(), ran) || !slices.Equal(w.Done(), done) || w.Left() != left || w.Finished() || left == 0 {
		t.Fatalf("error %d: asked %v, Ran %v, Done %v, Left %d, Finished %v; not %v, %v, %v, %d", want, r.asked, w.Ran(), w.Done(), w.Left(), w.Finished(), asked, ran, done, left)
	}
}

// TestWrongAnswers: run answers an entry that isn't right, or of another group, for the first group or a later one.
func TestWrongAnswers(t *testing.T) { // P23.1, DOC P1
	for at, group := range []int{4, 0, 2} {
		for i, e := range wrongEntries(group) {
			d := vfs.New(1000)
			j := opened(t, d)
			r := &witness{answer: func(g int) api.Entry {
				if g == group {
					return e
				}
				return entry(g)
			}}
			groups := []int{4, 0, 2, 7}
			w := New(j, groups, r.run)
			for range 3 * at {
				is(t, "Step", w.Step(), api.OK)
			}
			before := fileOf(t, d)
			if code := w.Step(); code != api.ErrArg {
				t.Fatalf("entry %d, %.200v: %d", i, e, code)
			}
			stays(t, w, r, d, api.ErrArg)
			if !slices.Equal(w.Ran(), groups[:at+1]) || !slices.Equal(w.Done(), groups[:at]) || w.Left() != 4-at || len(j.Keys()) != at || string(fileOf(t, d)) != string(before) {
				t.Fatalf("entry %d: %v, %v, %d, %v", i, w.Ran(), w.Done(), w.Left(), j.Keys())
			}
		}
	}
}

// TestNoAnswer: there is no run, or one that panics. Of group 0 the entry with nothing in it would be right.
func TestNoAnswer(t *testing.T) { // P23.1, DOC P1
	for _, panicked := range []any{"text", nil, 7, api.ErrRoom} {
		d := vfs.New(1000)
		r := &witness{answer: func(g int) api.Entry {
			if g == 0 {
				panic(panicked)
			}
			return entry(g)
		}}
		w := New(opened(t, d), []int{1, 0, 2}, r.run)
		for range 3 {
			is(t, "Step", w.Step(), api.OK)
		}
		is(t, "Step", w.Step(), api.ErrArg)
		stays(t, w, r, d, api.ErrArg)
		if !slices.Equal(w.Ran(), []int{1, 0}) || w.Left() != 2 {
			t.Errorf("%v, %d", w.Ran(), w.Left())
		}
	}
	d := vfs.New(1000)
	w := New(opened(t, d), []int{0, 1}, nil)
	is(t, "Step", w.Step(), api.ErrArg)
	stays(t, w, &witness{}, d, api.ErrArg)
	if len(w.Ran()) != 0 || w.Left() != 2 {
		t.Errorf("%v, %d", w.Ran(), w.Left())
	}
}

// TestStepInRun: a run that asks its own worker for steps is asked no group twice, and makes it stuck.
func TestStepInRun(t *testing.T) { // P23.2, DOC P1
	d := vfs.New(1000)
	var w *Worker
	r := &witness{}
	r.answer = func(g int) api.Entry {
		if len(w.Ran()) != len(r.asked)-1 || slices.Contains(w.Ran(), g) {
			t.Errorf("while %d is run: %v", g, w.Ran())
		}
		for range 3 {
			is(t, "Step", w.Step(), api.ErrArg)
		}
		return entry(g)
	}
	w = New(opened(t, d), []int{3, 1}, r.run)
	is(t, "Step", w.Step(), api.ErrArg)
	stays(t, w, r, d, api.ErrArg)
	if !slices.Equal(r.asked, []int{3}) || !slices.Equal(w.Ran(), r.asked) {
		t.Errorf("%v, %v", r.asked, w.Ran())
	}
}

// TestJournalErrors has every error of the journal, at the step that appends and at the one that syncs, for the first group and a later one.
func TestJournalErrors(t *testing.T) { // P23.1, DOC P1
	for _, x := range []struct {
		name  string
		sync  bool // it fails at the step that syncs; else at the one that appends
		want  api.Errno
		spoil func(d *vfs.FS)
	}{
		{"the power goes", false, api.ErrDown, func(d *vfs.FS) { d.Fail(1) }},
		{"the power is off", false, api.ErrDown, func(d *vfs.FS) { d.Fail(1); d.Create("x") }},
		{"no room", false, api.ErrRoom, func(d *vfs.FS) { d.Create("x"); d.Append("x", make([]byte, d.Room())) }},
		{"too little room", false, api.ErrRoom, func(d *vfs.FS) { d.Create("x"); d.Append("x", make([]byte, d.Room()-10)) }},
		{"no file", false, api.ErrNone, func(d *vfs.FS) { d.Remove(file) }},
		{"the file has another name", false, api.ErrNone, func(d *vfs.FS) { d.Rename(file, "x") }},
		{"the power goes at the sync", true, api.ErrDown, func(d *vfs.FS) { d.Fail(1) }},
		{"the power is off at the sync", true, api.ErrDown, func(d *vfs.FS) { d.Fail(1); d.Create("x") }},
		{"no file at the sync", true, api.ErrNone, func(d *vfs.FS) { d.Remove(file) }},
		{"the file has another name at the sync", true, api.ErrNone, func(d *vfs.FS) { d.Rename(file, "x") }},
	} {
		for ahead := range 3 {
			d := vfs.New(1000)
			j := opened(t, d)
			r := &witness{answer: entry}
			groups := []int{4, 2, 8}
			w := New(j, groups, r.run)
			for range 3*ahead + 1 {
				is(t, x.name, w.Step(), api.OK)
			}
			if x.sync {
				is(t, x.name, w.Step(), api.OK)
			}
			x.spoil(d)
			is(t, x.name, w.Step(), x.want)
			for range 3 {
				is(t, x.name, w.Step(), x.want)
			}
			d.Remove("x")
			stays(t, w, r, d, x.want)
			if !slices.Equal(w.Ran(), groups[:ahead+1]) || !slices.Equal(w.Done(), groups[:ahead]) || w.Left() != 3-ahead || w.Finished() {
				t.Errorf("%s: %v, %v, %d, %v", x.name, w.Ran(), w.Done(), w.Left(), w.Finished())
			}
		}
	}
}

// TestErrorsNamedFirst: where two errors apply to a put, it is the journal's first; a wrong answer is told ahead of all.
func TestErrorsNamedFirst(t *testing.T) { // P23.1, DOC P1
	d := vfs.New(30)
	j := opened(t, d)
	is(t, "Put", j.Put(4, []byte("x")), api.OK)
	v, w, x := New(j, []int{4}, entry), New(j, []int{2}, entry), New(j, []int{3}, func(int) api.Entry { return entry(4) })
	is(t, "Step", v.Step(), api.OK)
	is(t, "Step", w.Step(), api.OK)
	d.Fail(1)
	is(t, "Create", d.Create("y"), api.ErrDown)
	is(t, "Step of a group that is there", v.Step(), api.ErrTwice)
	is(t, "Step without power and room", w.Step(), api.ErrDown)
	is(t, "Step with another group's entry", x.Step(), api.ErrArg)
	is(t, "run without power", New(j, []int{5}, entry).Step(), api.OK)
}

// TestGroupIsThere: a group that the journal has is run, and can't be put.
func TestGroupIsThere(t *testing.T) { // P23.1, P23.2
	for at := range 4 {
		d := vfs.New(1000)
		j := opened(t, d)
		groups := []int{5, 3, 9, 0}
		is(t, "Put", j.Put(int64(groups[at]), []byte("other")), api.OK)
		r := &witness{answer: entry}
		w := New(j, groups, r.run)
		for range 3*at + 1 {
			is(t, "Step", w.Step(), api.OK)
		}
		is(t, "Step", w.Step(), api.ErrTwice)
		stays(t, w, r, d, api.ErrTwice)
		if data, _ := j.Get(int64(groups[at])); string(data) != "other" || !slices.Equal(r.asked, groups[:at+1]) || !slices.Equal(w.Done(), groups[:at]) {
			t.Errorf("%q, %v, %v", data, r.asked, w.Done())
		}
	}
}

// TestTooLong: an entry may be right, and have more bytes than a journal's data may.
func TestTooLong(t *testing.T) { // P23.1, DOC P1
	if testing.Short() {
		t.Skip("takes some GiB of memory")
	}
	e := api.Entry{Group: 1, Results: []api.Result{{Name: "t", Verdict: 1}}, Traces: [][]api.Event{nil}}
	long := strings.Repeat("x", 1<<20)
	for range 1 << 9 {
		e.Traces[0] = append(e.Traces[0], api.Event{Kind: api.Sent, Text: long})
	}
	d := vfs.New(1000)
	r := &witness{answer: func(int) api.Entry { return e }}
	w := New(opened(t, d), []int{1, 2}, r.run)
	is(t, "Step", w.Step(), api.OK)
	d.Fail(1)
	is(t, "Step", w.Step(), api.ErrLong)
	stays(t, w, r, d, api.ErrLong)
}
