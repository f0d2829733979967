package worker

import (
	"bytes"
	"math/rand"
	"slices"
	"testing"

	"colloquy/api"
	"colloquy/vfs"
)

// safeAndWhole holds a disk behind a loss of power against what a worker told ahead of it: what was done is there, and what is there was put.
func safeAndWhole(t *testing.T, d *vfs.FS, w *Worker, put []record) []record {
	t.Helper()
	j := opened(t, d)
	var there []record
	for _, r := range put {
		if j.Has(int64(r.group)) {
			there = append(there, r)
		}
	}
	holdJournal(t, j, there)
	if len(there) < len(w.Done()) || !bytes.HasPrefix(recordsOf(put), fileOf(t, d)) {
		t.Fatalf("of %v done there are %v", w.Done(), j.Keys())
	}
	for i, group := range w.Done() {
		if there[i].group != group {
			t.Fatalf("done is %v, there are %v", w.Done(), j.Keys())
		}
	}
	return there
}

// goOn does the groups that aren't in the journal by a new worker, and holds the file against that of a disk whose power never went.
func goOn(t *testing.T, d *vfs.FS, groups []int, there []record) {
	t.Helper()
	var todo []int
	all := slices.Clone(there)
	for _, group := range groups {
		if !slices.ContainsFunc(there, func(r record) bool { return r.group == group }) {
			todo = append(todo, group)
			all = append(all, record{group, plainEntry(entry(group))})
		}
	}
	r := &witness{answer: entry}
	w := New(opened(t, d), todo, r.run)
	for !w.Finished() {
		is(t, "Step", w.Step(), api.OK)
	}
	d.Crash(nil)
	holdJournal(t, opened(t, d), all)
	if !slices.Equal(r.asked, todo) || !bytes.Equal(fileOf(t, d), recordsOf(all)) {
		t.Fatalf("asked for %v of %v, the file is %v", r.asked, todo, fileOf(t, d))
	}
}

// recordsFor are the records of the entries of groups.
func recordsFor(groups []int) []record {
	var rs []record
	for _, group := range groups {
		rs = append(rs, record{group, plainEntry(entry(group))})
	}
	return rs
}

// TestPowerGoes has the power go at every step of the disk, with every count of loose bytes kept.
func TestPowerGoes(t *testing.T) { // P23.1, P23.2, P23.3, DOC P4
	for _, groups := range [][]int{{4}, {4, 2}, {3, 9, 0, 1}} {
		all := recordsFor(groups)
		most := 0
		for _, r := range all {
			most = max(most, len(plainRecord(r.group, r.data)))
		}
		for fail := 1; fail <= 2*len(groups)+1; fail++ {
			for keep := -1; keep <= most+1; keep++ {
				d := vfs.New(1 << 20)
				j := opened(t, d)
				r := &witness{answer: entry}
				w := New(j, groups, r.run)
				plain := plainNew(&plainDisk{room: 1 << 20, fuse: fail}, groups, right)
				d.Fail(fail)
				for range 3*len(groups) + 2 {
					is(t, "Step", w.Step(), plain.step())
					hold(t, w, r, d, j, plain)
				}
				d.Crash([]int{keep})
				plain.disk.crash(keep)
				there := safeAndWhole(t, d, w, all)
				if !bytes.Equal(recordsOf(there), recordsOf(plain.disk.there)) {
					t.Fatalf("the power goes at %d, %d are kept: %v", fail, keep, there)
				}
				goOn(t, d, groups, there)
			}
		}
	}
}

// TestCrashBetweenSteps has a Crash behind every step of the worker, with every count of loose bytes kept. What was done is there, and the worker that goes on asks for nothing again.
func TestCrashBetweenSteps(t *testing.T) { // P23.2, P23.3, DOC P4
	groups := []int{3, 9, 0, 1}
	all := recordsFor(groups)
	for steps := range 3*len(groups) + 1 {
		for keep := range 60 {
			d := vfs.New(1 << 20)
			r := &witness{answer: entry}
			w := New(opened(t, d), groups, r.run)
			for range steps {
				is(t, "Step", w.Step(), api.OK)
			}
			b := fileOf(t, d)
			d.Crash([]int{keep})
			if !bytes.HasPrefix(b, fileOf(t, d)) {
				t.Fatalf("%v isn't a beginning of %v", fileOf(t, d), b)
			}
			there := safeAndWhole(t, d, w, all)
			for range 3 * len(groups) {
				w.Step()
			}
			if asked := slices.Clone(r.asked); !slices.Equal(asked, groups[:len(asked)]) || !slices.Equal(w.Ran(), asked) {
				t.Fatalf("asked for %v", asked)
			}
			if steps < 3*len(groups) {
				d = vfs.New(1 << 20)
				w = New(opened(t, d), groups, entry)
				for range steps {
					w.Step()
				}
				d.Crash([]int{keep})
			}
			goOn(t, d, groups, there)
		}
	}
}

// TestRooms has every room from none to more than enough; with room made, what isn't in the journal is gone on with.
func TestRooms(t *testing.T) { // P23.1, P23.2, DOC P4
	for _, groups := range [][]int{{4}, {3, 9, 0, 1}, {0, 5, 10}} {
		all := recordsFor(groups)
		enough := len(recordsOf(all))
		for room := range enough + 3 {
			d := vfs.New(enough + 3)
			is(t, "Create", d.Create("other"), api.OK)
			is(t, "Append", d.Append("other", make([]byte, enough+3-room)), api.OK)
			j := opened(t, d)
			r := &witness{answer: entry}
			w := New(j, groups, r.run)
			plain := plainNew(&plainDisk{room: room}, groups, right)
			for range 3*len(groups) + 2 {
				is(t, "Step", w.Step(), plain.step())
				hold(t, w, r, d, j, plain)
			}
			if w.Finished() != (room >= enough) || room < enough && plain.stuck != api.ErrRoom || !slices.Equal(w.Done(), groups[:len(plain.disk.there)]) {
				t.Fatalf("room %d of %d: %v, %v, %d", room, enough, w.Finished(), w.Done(), plain.stuck)
			}
			d.Crash(nil)
			there := safeAndWhole(t, d, w, all)
			is(t, "Remove", d.Remove("other"), api.OK)
			goOn(t, d, groups, there)
		}
	}
}

// TestAnyOrder has any groups, entries, rooms and losses of power, and calls of two workers, one behind the other.
func TestAnyOrder(t *testing.T) { // P23.1, P23.2, P23.3, DOC P1, DOC P2
	r := rand.New(rand.NewSource(1))
	wrong := wrongEntries(3)
	kinds := map[api.Errno]int{}
	for range 4000 {
		entries := map[int]api.Entry{}
		for group := range 7 {
			entries[group] = someEntry(r, group)
		}
		spoilt := r.Intn(3) == 0
		if spoilt {
			entries[3] = wrong[r.Intn(len(wrong))]
		}
		answer := func(group int) api.Entry { return entries[group] }
		plainRun := func(group int) ([]byte, bool) {
			if spoilt && group == 3 {
				return nil, false
			}
			return plainEntry(entries[group]), true
		}
		room := r.Intn(3000)
		d, disk := vfs.New(room), &plainDisk{room: room}
		for range 3 {
			j := opened(t, d)
			disk.safe = len(disk.there)
			var groups []int
			for range r.Intn(6) {
				groups = append(groups, r.Intn(7))
			}
			asked := &witness{answer: answer}
			w, plain := New(j, groups, asked.run), plainNew(disk, groups, plainRun)
			for range r.Intn(3*len(groups) + 4) {
				if r.Intn(20) == 0 {
					n := r.Intn(8) - 1
					d.Fail(n)
					disk.fuse = max(n, 0)
				}
				code := w.Step()
				kinds[code]++
				is(t, "Step", code, plain.step())
				hold(t, w, asked, d, j, plain)
			}
			keep := r.Intn(700) - 5
			d.Crash([]int{keep})
			disk.crash(keep)
			holdJournal(t, opened(t, d), disk.there)
		}
	}
	for _, code := range []api.Errno{api.OK, api.ErrNone, api.ErrArg, api.ErrTwice, api.ErrDown, api.ErrRoom} {
		if kinds[code] < 300 {
			t.Errorf("error %d only %d times", code, kinds[code])
		}
	}
}
