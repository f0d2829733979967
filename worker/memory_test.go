package worker

import (
	"bytes"
	"fmt"
	"slices"
	"testing"

	"colloquy/api"
	"colloquy/vfs"
)

// roomy is an entry in memory of its own, with some more behind each list's length.
func roomy(e api.Entry) api.Entry {
	c := api.Entry{Group: e.Group, Results: append(slices.Clone(e.Results), api.Result{Name: "#", Verdict: 77}, api.Result{Name: "#"})[:len(e.Results)]}
	c.Traces = append(slices.Clone(e.Traces), []api.Event{{Kind: 78}}, nil)[:len(e.Traces)]
	for i, es := range e.Traces {
		c.Traces[i] = append(slices.Clone(es), api.Event{Kind: 77})[:len(es)]
	}
	return c
}

// wide is all that an entry has, with what is behind its lists' lengths, as a text.
func wide(e api.Entry) string {
	e.Results = e.Results[:cap(e.Results)]
	e.Traces = slices.Clone(e.Traces[:cap(e.Traces)])
	for i, es := range e.Traces {
		e.Traces[i] = es[:cap(es)]
	}
	return fmt.Sprintf("%#v", e)
}

// overwrite writes over an entry's lists, with what is behind their lengths.
func overwrite(e api.Entry) {
	for i := range e.Results[:cap(e.Results)] {
		e.Results[:cap(e.Results)][i] = api.Result{Name: "#", Verdict: 77}
	}
	for _, es := range e.Traces[:cap(e.Traces)] {
		for j := range es[:cap(es)] {
			es[:cap(es)][j] = api.Event{Kind: 77}
		}
	}
	clear(e.Traces[:cap(e.Traces)])
}

func TestArgumentsStay(t *testing.T) { // P23.1
	d := vfs.New(10000)
	whole := []int{4, 2, 9, 3, 77, 78}
	answers := map[int]api.Entry{}
	ahead := map[int]string{}
	for _, group := range whole {
		answers[group] = roomy(entry(group))
		ahead[group] = wide(answers[group])
	}
	w := New(opened(t, d), whole[:4], func(group int) api.Entry { return answers[group] })
	for range 15 {
		w.Step()
		w.Ran()
		w.Done()
		for _, group := range whole {
			if wide(answers[group]) != ahead[group] {
				t.Fatalf("the entry of %d is now %v", group, answers[group])
			}
		}
	}
	if !slices.Equal(whole, []int{4, 2, 9, 3, 77, 78}) || !w.Finished() {
		t.Errorf("%v", whole)
	}
}

// TestNothingIsKept writes over the list of the groups behind New, and over what run has answered behind the step that runs.
func TestNothingIsKept(t *testing.T) { // P23.1, P23.3
	d := vfs.New(10000)
	j := opened(t, d)
	groups := []int{4, 2, 9, 3}
	want := slices.Clone(groups)
	var last api.Entry
	r := &witness{answer: func(group int) api.Entry {
		last = roomy(entry(group))
		return last
	}}
	w := New(j, groups, r.run)
	for i := range groups {
		groups[i] = 70 + i
	}
	for range want {
		is(t, "Step", w.Step(), api.OK)
		overwrite(last)
		is(t, "Step", w.Step(), api.OK)
		overwrite(last)
		clear(groups)
		is(t, "Step", w.Step(), api.OK)
	}
	if !w.Finished() || !slices.Equal(r.asked, want) || !slices.Equal(w.Ran(), want) || !slices.Equal(w.Done(), want) {
		t.Errorf("%v, %v, %v", r.asked, w.Ran(), w.Done())
	}
	holdJournal(t, j, recordsFor(want))
	if !bytes.Equal(fileOf(t, d), recordsOf(recordsFor(want))) {
		t.Errorf("%v", fileOf(t, d))
	}
}

// TestAnswersAreNew writes over each list that is answered, with its spare room, behind every step.
func TestAnswersAreNew(t *testing.T) { // P23.1, P23.3
	d := vfs.New(10000)
	j := opened(t, d)
	groups := []int{4, 2, 9, 3}
	r := &witness{answer: entry}
	w := New(j, groups, r.run)
	plain := plainNew(&plainDisk{room: 10000}, groups, right)
	for range 3*len(groups) + 2 {
		is(t, "Step", w.Step(), plain.step())
		ran, done := w.Ran(), w.Done()
		for _, list := range [][]int{w.Ran(), w.Done()} {
			for i := range list[:cap(list)] {
				list[:cap(list)][i] = 77
			}
		}
		if !slices.Equal(ran, plain.ran) || !slices.Equal(done, plain.done) {
			t.Fatalf("%v, %v, not %v, %v", ran, done, plain.ran, plain.done)
		}
		hold(t, w, r, d, j, plain)
		ran = append(ran, 77)
		done = append(done, 78)
		clear(ran)
		clear(done)
		hold(t, w, r, d, j, plain)
	}
	if !slices.Equal(groups, []int{4, 2, 9, 3}) || !w.Finished() {
		t.Errorf("%v", groups)
	}
}
