package worker

import (
	"math"
	"slices"
	"testing"

	"colloquy/api"
	"colloquy/book"
	"colloquy/vfs"
)

func TestExample(t *testing.T) { // P23.1
	d := vfs.New(1000)
	j := opened(t, d)
	r := &witness{answer: entry}
	w := New(j, []int{4, 2}, r.run)
	for i, x := range []struct {
		ran, done []int
		keys      []int64
		left      int
		finished  bool
	}{
		{[]int{4}, nil, nil, 2, false},
		{[]int{4}, nil, []int64{4}, 2, false},
		{[]int{4}, []int{4}, []int64{4}, 1, false},
		{[]int{4, 2}, []int{4}, []int64{4}, 1, false},
		{[]int{4, 2}, []int{4}, []int64{2, 4}, 1, false},
		{[]int{4, 2}, []int{4, 2}, []int64{2, 4}, 0, true},
	} {
		is(t, "Step", w.Step(), api.OK)
		if !slices.Equal(w.Ran(), x.ran) || !slices.Equal(w.Done(), x.done) || !slices.Equal(j.Keys(), x.keys) || w.Left() != x.left || w.Finished() != x.finished || !slices.Equal(r.asked, x.ran) {
			t.Errorf("behind step %d: %v, %v, %v, %d, %v, %v", i, w.Ran(), w.Done(), j.Keys(), w.Left(), w.Finished(), r.asked)
		}
	}
	for range 5 {
		is(t, "Step", w.Step(), api.ErrNone)
	}
	if w.Left() != 0 || !w.Finished() || len(r.asked) != 2 {
		t.Errorf("%d, %v, %v", w.Left(), w.Finished(), r.asked)
	}
}

// lists are lists of groups that a worker may be handed.
func lists() [][]int {
	var many []int
	for i := range 100 {
		many = append(many, i*37%100)
	}
	return [][]int{
		nil, {}, {0}, {7}, {1 << 20}, {0, 1}, {1, 0}, {4, 2}, {3, 1, 2}, {9, 8, 7, 6, 5}, {128, 127, 1<<20 - 1, 0}, many,
		{4, 4}, {4, 4, 4}, {4, 2, 4}, {2, 4, 4, 1}, {0, 0},
		{-1}, {-1, 3}, {3, -1, 4}, {1<<20 + 1}, {3, 1<<20 + 1}, {math.MinInt}, {math.MaxInt, 1}, {1 << 32}, {5, -5, 5},
	}
}

// TestSteps holds all that is told behind every step against the chapter's words.
func TestSteps(t *testing.T) { // P23.1, P23.2, P23.3, DOC P1
	for _, groups := range lists() {
		d := vfs.New(1 << 20)
		j := opened(t, d)
		r := &witness{answer: entry}
		w := New(j, groups, r.run)
		plain := plainNew(&plainDisk{room: 1 << 20}, groups, right)
		hold(t, w, r, d, j, plain)
		for range 3*len(groups) + 4 {
			is(t, "Step", w.Step(), plain.step())
			hold(t, w, r, d, j, plain)
		}
		d.Crash(nil)
		plain.disk.crash(0)
		holdJournal(t, opened(t, d), plain.disk.there)
	}
}

// TestNothingToDo: a worker without groups is finished, and asks nobody.
func TestNothingToDo(t *testing.T) { // P23.1, P23.3
	d := vfs.New(1000)
	j := opened(t, d)
	d.Fail(1)
	r := &witness{answer: entry}
	for _, w := range []*Worker{New(j, nil, r.run), New(j, []int{}, r.run), New(j, nil, nil), New(j, []int{1, 2}[:0], r.run)} {
		for range 3 {
			if !w.Finished() || w.Left() != 0 || len(w.Ran()) != 0 || len(w.Done()) != 0 {
				t.Errorf("%v, %d, %v, %v", w.Finished(), w.Left(), w.Ran(), w.Done())
			}
			is(t, "Step", w.Step(), api.ErrNone)
		}
	}
	if len(r.asked) != 0 || len(j.Keys()) != 0 || d.Down() {
		t.Errorf("%v, %v, %v", r.asked, j.Keys(), d.Down())
	}
}

// TestWhatIsPut: the journal has the entry's bytes, as layer 21 tells them, and they are unpacked as what run answered.
func TestWhatIsPut(t *testing.T) { // P23.1, P23.2
	d := vfs.New(1 << 20)
	j := opened(t, d)
	groups := []int{1 << 20, 3, 0, 128, 44}
	w := New(j, groups, entry)
	for i, group := range groups {
		is(t, "Step that runs", w.Step(), api.OK)
		if len(fileOf(t, d)) != j.Size() || len(j.Keys()) != i {
			t.Errorf("run writes: %v", j.Keys())
		}
		is(t, "Step that puts", w.Step(), api.OK)
		want, _ := book.Pack(entry(group))
		data, _ := j.Get(int64(group))
		got, code := book.Unpack(data)
		if string(data) != string(want) || string(want) != string(plainEntry(entry(group))) || code != api.OK || got.Group != group {
			t.Errorf("group %d: %v, %v, %d", group, data, got, code)
		}
		is(t, "Step that syncs", w.Step(), api.OK)
	}
	want := fileOf(t, d)
	d.Crash(nil)
	if string(fileOf(t, d)) != string(want) {
		t.Error("something wasn't safe")
	}
}

// TestDiskSteps: a step that runs takes no step of the disk, each of the two others one.
func TestDiskSteps(t *testing.T) { // P23.1
	for fail := 1; fail <= 7; fail++ {
		d := vfs.New(1000)
		w := New(opened(t, d), []int{1, 2, 3}, entry)
		d.Fail(fail)
		steps := 0
		for w.Step() == api.OK {
			steps++
		}
		if want := []int{1, 2, 4, 5, 7, 8, 9}[fail-1]; steps != want {
			t.Errorf("the power goes at %d: %d steps, not %d", fail, steps, want)
		}
	}
}

// TestTwoWorkers of one journal, and of two journals of one disk, take their steps in any order.
func TestTwoWorkers(t *testing.T) { // P23.1, P23.3
	for order := range 1 << 12 {
		d := vfs.New(10000)
		first := opened(t, d)
		second := first
		if order%2 == 0 {
			second = openedAs(t, d, "k")
		}
		a, b := &witness{answer: entry}, &witness{answer: entry}
		v, w := New(first, []int{0, 2}, a.run), New(second, []int{3, 1}, b.run)
		for i := range 12 {
			if order>>i&1 == 0 {
				v.Step()
			} else {
				w.Step()
			}
		}
		for range 6 {
			v.Step()
			w.Step()
		}
		if !v.Finished() || !w.Finished() || !slices.Equal(a.asked, []int{0, 2}) || !slices.Equal(b.asked, []int{3, 1}) || !slices.Equal(v.Done(), a.asked) || !slices.Equal(w.Done(), b.asked) {
			t.Fatalf("order %d: %v, %v, %v, %v", order, a.asked, b.asked, v.Done(), w.Done())
		}
		d.Crash(nil)
		for _, group := range []int64{0, 1, 2, 3} {
			in := opened(t, d).Has(group)
			if order%2 == 0 && (group == 1 || group == 3) {
				in = openedAs(t, d, "k").Has(group)
			}
			if !in {
				t.Fatalf("order %d: %d isn't there", order, group)
			}
		}
	}
}
