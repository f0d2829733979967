package trace

import (
	"math/rand"
	"slices"
	"testing"

	"colloquy/api"
)

// The chapter's sentences, with the Kinds' numbers.

func plainDecides(e api.Event) bool {
	if slices.Contains([]int{5, 6, 7}, e.Kind) && e.N < 0 {
		return true
	}
	return slices.Contains([]int{8, 9, 11, 12, 13}, e.Kind)
}

// rules are what must be of a trace at each place; a trace is right if all hold everywhere.
var rules = []func(es []api.Event, i int) bool{
	func(es []api.Event, i int) bool { return es[i].Kind >= 1 && es[i].Kind <= 14 },
	func(es []api.Event, i int) bool { return i == len(es)-1 || !plainDecides(es[i]) },
	func(es []api.Event, i int) bool { return es[i].N >= -1 },
	func(es []api.Event, i int) bool { return es[i].N >= 0 || slices.Contains([]int{5, 6, 7}, es[i].Kind) },
	func(es []api.Event, i int) bool {
		return es[i].N == 0 || slices.Contains([]int{1, 3, 4, 5, 6, 7, 14}, es[i].Kind)
	},
	func(es []api.Event, i int) bool {
		return es[i].Text == "" || slices.Contains([]int{2, 3, 4}, es[i].Kind)
	},
	func(es []api.Event, i int) bool { return es[i].At >= 0 },
	func(es []api.Event, i int) bool { return i == 0 || es[i].At >= es[i-1].At || es[i].Kind == 1 },
	func(es []api.Event, i int) bool { return es[i].At == 0 || es[i].Kind != 1 },
}

func plainRight(es []api.Event) bool {
	for _, rule := range rules {
		for i := range es {
			if !rule(es, i) {
				return false
			}
		}
	}
	return true
}

// plainVerdict is the verdict of a test that is run.
func plainVerdict(es []api.Event, xfail bool) int {
	for _, e := range es {
		switch {
		case !plainDecides(e):
			continue
		case e.Kind == 12 && xfail:
			return 3
		case e.Kind == 12:
			return 1
		case (e.Kind == 13 || e.Kind == 11) && xfail:
			return 4
		case e.Kind == 13 || e.Kind == 11:
			return 2
		}
		return 5
	}
	return 5
}

// someEvents are events of all Kinds, right ones and others.
func someEvents() []api.Event {
	var all []api.Event
	for kind := range 16 {
		for _, n := range []int{-2, -1, 0, 1} {
			for _, text := range []string{"", "x"} {
				for _, ticks := range []int64{-1, 0, 1} {
					all = append(all, api.Event{Kind: kind, N: n, Text: text, At: ticks})
				}
			}
		}
	}
	return all
}

// check holds what is told of a trace against the chapter's words.
func check(t *testing.T, es []api.Event) {
	t.Helper()
	if Right(es) != plainRight(es) {
		t.Fatalf("Right(%v) isn't %v", es, plainRight(es))
	}
	for _, xfail := range []bool{false, true} {
		if v := Verdict(api.Run, es, xfail); v != plainVerdict(es, xfail) {
			t.Fatalf("Verdict of %v, %v = %d", es, xfail, v)
		}
	}
}

func TestEveryPair(t *testing.T) { // P18.1
	some := someEvents()
	for _, one := range some {
		for _, two := range some {
			check(t, []api.Event{one, two})
		}
	}
}

func TestEveryTriple(t *testing.T) { // P18.1: of events that are right alone
	var some []api.Event
	for _, e := range append(someEvents(), at(2), api.Event{Kind: api.Passed, At: 2}, api.Event{Kind: api.Over, At: 2}) {
		if plainRight([]api.Event{e}) {
			some = append(some, e)
		}
	}
	for _, one := range some {
		for _, two := range some {
			for _, three := range some {
				check(t, []api.Event{one, two, three})
			}
		}
	}
}

// anyTrace is a trace that is right more often than not.
func anyTrace(r *rand.Rand, some []api.Event) []api.Event {
	var es []api.Event
	ticks := int64(r.Intn(3))
	for range r.Intn(9) {
		e := some[r.Intn(len(some))]
		for r.Intn(4) > 0 && (!plainRight([]api.Event{e}) || plainDecides(e)) {
			e = some[r.Intn(len(some))]
		}
		if ticks += int64(r.Intn(3)); r.Intn(20) == 0 {
			ticks--
		}
		if e.Kind == api.Spawned {
			ticks = int64(r.Intn(20) / 19)
		}
		e.At = ticks
		es = append(es, e)
	}
	return es
}

func TestAnyTraces(t *testing.T) { // P18.1
	r := rand.New(rand.NewSource(1))
	some := someEvents()
	rights := 0
	for range 300000 {
		es := anyTrace(r, some)
		check(t, es)
		if Right(es) {
			rights++
		}
	}
	if rights < 50000 || rights > 250000 {
		t.Errorf("%d are right", rights)
	}
}

// TestFirstAlone: a verdict hangs on the first event that decides, and on nothing else but xfail, which makes others change places.
func TestFirstAlone(t *testing.T) { // P18.2
	r := rand.New(rand.NewSource(2))
	some := someEvents()
	turned := map[int]int{api.PASS: api.XPASS, api.FAIL: api.XFAIL, api.UNRESOLVED: api.UNRESOLVED}
	seen := map[int]int{}
	for range 200000 {
		es := anyTrace(r, some)
		first := slices.IndexFunc(es, Decides)
		var alone []api.Event
		if first >= 0 {
			alone = []api.Event{es[first]}
		}
		v, xv := Verdict(api.Run, es, false), Verdict(api.Run, es, true)
		if want, turns := turned[v]; v != Verdict(api.Run, alone, false) || !turns || xv != want {
			t.Fatalf("Verdict of %v = %d, with xfail %d", es, v, xv)
		}
		if first < 0 {
			if v != api.UNRESOLVED {
				t.Fatalf("Verdict of %v = %d", es, v)
			}
			continue
		}
		seen[v]++
		other := slices.Concat(es[:first+1], anyTrace(r, some))
		if Verdict(api.Run, other, false) != v || Verdict(api.Run, other, true) != xv {
			t.Fatalf("the verdict of %v hangs on more than its first event that decides", other)
		}
	}
	if seen[api.PASS] < 1000 || seen[api.FAIL] < 1000 || seen[api.UNRESOLVED] < 1000 {
		t.Errorf("the verdicts were %v", seen)
	}
}
