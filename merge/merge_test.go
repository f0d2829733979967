package merge

import (
	"math"
	"math/rand"
	"slices"
	"testing"

	"colloquy/api"
)

// holdMerge holds what is merged against the chapter's words; the answer is its code.
func holdMerge(t *testing.T, n int, parts [][]api.Entry) api.Errno {
	t.Helper()
	es, code := Merge(n, parts)
	want, wantCode := plainMerge(n, parts)
	if code != wantCode || toldAll(es) != want || code != api.OK && len(es) != 0 || code == api.OK && len(es) != max(n, 0) {
		t.Fatalf("%d, %.300v: %.300v, %d, not %.300s, %d", n, parts, es, code, want, wantCode)
	}
	return code
}

func TestExamples(t *testing.T) { // P22.1, P22.2
	parts := [][]api.Entry{{entry(1)}, {entry(0), entry(1)}}
	es, code := Merge(2, parts)
	if code != api.OK || len(es) != 2 || told(es[0]) != told(entry(0)) || told(es[1]) != told(entry(1)) {
		t.Errorf("%v, %d", es, code)
	}
	if es, code := Merge(3, parts); code != api.ErrNone || len(es) != 0 {
		t.Errorf("%v, %d", es, code)
	}
}

// groups are entries of groups.
func groups(of ...int) []api.Entry {
	var es []api.Entry
	for _, g := range of {
		es = append(es, entry(g))
	}
	return es
}

func TestMergeCodes(t *testing.T) { // P22.1, DOC P1
	a, other := entry(1), entry(1)
	other.Results[0].Verdict = api.FAIL
	for i, x := range []struct {
		n     int
		parts [][]api.Entry
		code  api.Errno
	}{
		{0, nil, api.OK}, {0, [][]api.Entry{}, api.OK}, {0, [][]api.Entry{nil, {}, nil}, api.OK}, {-1, nil, api.OK}, {-1, [][]api.Entry{{}}, api.OK}, {math.MinInt, nil, api.OK},
		{1, nil, api.ErrNone}, {1, [][]api.Entry{nil, {}}, api.ErrNone}, {2, nil, api.ErrNone}, {1000, [][]api.Entry{{}}, api.ErrNone},
		{1, [][]api.Entry{groups(0)}, api.OK}, {1, [][]api.Entry{nil, groups(0), {}}, api.OK}, {1, [][]api.Entry{groups(0, 0)}, api.OK}, {1, [][]api.Entry{groups(0), groups(0), groups(0, 0)}, api.OK},
		{3, [][]api.Entry{groups(2, 1, 0)}, api.OK}, {3, [][]api.Entry{groups(2), groups(0), groups(1)}, api.OK}, {3, [][]api.Entry{groups(0, 1, 2), groups(2, 1, 0), groups(1)}, api.OK},
		{3, [][]api.Entry{groups(1, 2)}, api.ErrNone}, {3, [][]api.Entry{groups(0), groups(2)}, api.ErrNone}, {3, [][]api.Entry{groups(1, 0, 1)}, api.ErrNone}, {3, [][]api.Entry{groups(2, 2, 2)}, api.ErrNone},
		{0, [][]api.Entry{groups(0)}, api.ErrGroup}, {-1, [][]api.Entry{groups(0)}, api.ErrGroup}, {-1, [][]api.Entry{groups(-1)}, api.ErrGroup}, {math.MinInt, [][]api.Entry{groups(math.MinInt)}, api.ErrGroup}, {-5, [][]api.Entry{groups(-6)}, api.ErrGroup},
		{1, [][]api.Entry{groups(0, 1)}, api.ErrGroup}, {1, [][]api.Entry{groups(0), groups(-1)}, api.ErrGroup}, {2, [][]api.Entry{groups(0, 1, 2)}, api.ErrGroup}, {2, [][]api.Entry{groups(3, 0, 1)}, api.ErrGroup}, {2, [][]api.Entry{groups(0, 1, math.MaxInt)}, api.ErrGroup}, {2, [][]api.Entry{groups(0, 1<<32, 1)}, api.ErrGroup}, {2, [][]api.Entry{groups(0, 1), groups(math.MinInt)}, api.ErrGroup},
		{2, [][]api.Entry{groups(0), {a, other}}, api.ErrGroup}, {2, [][]api.Entry{{a}, groups(0), {other}}, api.ErrGroup},
		// both errors at once
		{3, [][]api.Entry{groups(3)}, api.ErrGroup}, {3, [][]api.Entry{groups(0, -1)}, api.ErrGroup}, {3, [][]api.Entry{groups(-1), groups(0)}, api.ErrGroup}, {3, [][]api.Entry{{a}, {other}}, api.ErrGroup}, {3, [][]api.Entry{{a, a}, groups(0), {other}}, api.ErrGroup}, {math.MaxInt, [][]api.Entry{{a}, {other}}, api.ErrGroup}, {math.MaxInt, [][]api.Entry{groups(math.MaxInt)}, api.ErrGroup},
	} {
		es, code := Merge(x.n, x.parts)
		if code != x.code || code != api.OK && len(es) != 0 {
			t.Errorf("case %d: %v, %d, not %d", i, es, code, x.code)
		}
		if x.n < 1<<20 {
			holdMerge(t, x.n, x.parts)
		}
	}
}

// TestGreatN: there are far fewer entries than groups, and nothing is made for those.
func TestGreatN(t *testing.T) { // P22.1, DOC P1
	for _, n := range []int{1 << 31, 1 << 40, math.MaxInt - 1, math.MaxInt} {
		for _, parts := range [][][]api.Entry{nil, {groups(0, 1)}, {groups(n - 1), groups(0), groups(n-1, n-2)}} {
			if es, code := Merge(n, parts); code != api.ErrNone || len(es) != 0 {
				t.Errorf("%d, %v: %v, %d", n, parts, es, code)
			}
		}
	}
}

// TestBounds leaves out each group, and turns each Group to those about the bounds.
func TestBounds(t *testing.T) { // P22.1
	for n := -2; n < 8; n++ {
		var all []api.Entry
		for g := range n {
			all = append(all, entry(g))
		}
		holdMerge(t, n, [][]api.Entry{all})
		for i := range all {
			if code := holdMerge(t, n, [][]api.Entry{all[:i], all[i+1:]}); code != api.ErrNone {
				t.Errorf("%d without %d: %d", n, i, code)
			}
			for _, g := range []int{-1, 0, n - 1, n, n + 1, math.MaxInt, math.MinInt} {
				other := slices.Clone(all)
				other[i].Group = g
				holdMerge(t, n, [][]api.Entry{other})
				if code := holdMerge(t, n, [][]api.Entry{other, all}); (code == api.OK) != (g >= 0 && g < n) {
					t.Errorf("%d with %d: %d", n, g, code)
				}
			}
		}
	}
}

func TestTurned(t *testing.T) { // P22.1, P22.2
	e := entry(1)
	lists := []api.Entry{e, cloned(e, false), cloned(e, true)}
	for _, a := range lists {
		for _, b := range lists {
			if !Same(a, b) || holdMerge(t, 2, [][]api.Entry{{a, entry(0)}, {b}}) != api.OK {
				t.Errorf("%v, %v", a, b)
			}
		}
	}
	all := turned(e)
	if len(all) < 60 {
		t.Errorf("%d are turned", len(all))
	}
	for i, c := range all {
		for _, a := range lists {
			if told(a) == told(c) || Same(a, c) || Same(c, a) {
				t.Errorf("case %d: %v is the same", i, c)
			}
			for _, parts := range [][][]api.Entry{{{a, c}, {entry(0)}}, {{c}, {a}}, {{a}, {entry(0), a}, {c}}, {{a}, {c}, {a}}} {
				if code := holdMerge(t, 2, parts); code != api.ErrGroup {
					t.Errorf("case %d: %d", i, code)
				}
			}
		}
		if es, code := Merge(2, [][]api.Entry{{c}, {entry(0)}, {c}}); code != api.OK || told(es[1]) != told(c) {
			t.Errorf("case %d, twice: %v, %d", i, es, code)
		}
	}
}

// TestSame holds many entries against each other: turned ones, and ones that have nearly nothing.
func TestSame(t *testing.T) { // P22.1
	all := append(turned(entry(1)), entry(0), entry(1), entry(-1), entry(math.MaxInt), entry(math.MinInt), entry(1<<32+1), cloned(entry(1), false), cloned(entry(1), true))
	rs, none := []api.Result{{}}, [][]api.Event{nil}
	some := [][]api.Event{{{}}}
	for _, results := range [][]api.Result{nil, {}, rs, append(rs, rs...), {{Name: "a"}}, {{Verdict: 1}}} {
		for _, traces := range [][][]api.Event{nil, {}, none, {{}}, append(none, none...), {{}, nil}, some, {{{}}, nil}, {nil, {{}}}, {{{}, {}}}, {{{}}, {{}}}, {{{Kind: 1}}}, {{{N: 1}}}, {{{N: -1}}}, {{{Text: "1"}}}, {{{At: 1}}}} {
			all = append(all, api.Entry{Results: results, Traces: traces}, api.Entry{Group: 1, Results: results, Traces: traces})
		}
	}
	sames := 0
	for i, a := range all {
		for j, b := range all {
			want := told(a) == told(b)
			if Same(a, b) != want {
				t.Fatalf("%v, %v: not %v", a, b, want)
			}
			if want && i != j {
				sames++
			}
		}
	}
	if sames < 150 {
		t.Errorf("%d are the same", sames)
	}
}

// TestAnyOnes: Merge asks of no entry whether it is right.
func TestAnyOnes(t *testing.T) { // P22.1
	wrong := []api.Entry{{}, {Group: 1, Results: []api.Result{{Verdict: -7}, {}}}, {Group: 2, Traces: [][]api.Event{nil, {{Kind: 99, N: -5, At: math.MinInt64}}}}}
	if code := holdMerge(t, 3, [][]api.Entry{wrong, wrong}); code != api.OK {
		t.Error(code)
	}
}

// TestAnyParts spreads entries of few groups, some of them turned, over some parts.
func TestAnyParts(t *testing.T) { // P22.1, P22.2
	r := rand.New(rand.NewSource(1))
	codes := map[api.Errno]int{}
	s := api.Suite{Groups: []api.Group{{Tests: []api.Test{{Name: "t"}, {Name: ""}}}, {}, {Tests: []api.Test{{Name: "t"}}}, {Tests: []api.Test{{Name: "u"}}}}}
	for range 20000 {
		var known [4]api.Entry
		for g := range known {
			known[g] = someEntry(r, api.Suite{Groups: s.Groups[g : g+1]})
			known[g].Group = g
		}
		n := r.Intn(5)
		parts := make([][]api.Entry, r.Intn(5))
		for i := range parts {
			for range r.Intn(6) {
				e := cloned(known[r.Intn(max(1, min(n, 4)))], r.Intn(2) == 0)
				if r.Intn(40) == 0 {
					others := turned(e)
					e = others[r.Intn(len(others))]
				}
				if r.Intn(40) == 0 {
					e.Group = r.Intn(n+3) - 1
				}
				parts[i] = append(parts[i], e)
			}
		}
		codes[holdMerge(t, n, parts)]++
	}
	if len(codes) != 3 || codes[api.OK] < 3000 || codes[api.ErrNone] < 3000 || codes[api.ErrGroup] < 3000 {
		t.Error(codes)
	}
}

// TestMany: as many groups as there may be in an entry's number, in two parts, and one entry of as much as a group's fuel lets happen, often.
func TestMany(t *testing.T) { // P22.1, DOC P1
	n := 1<<20 + 1
	var parts [2][]api.Entry
	for g := range n {
		parts[0] = append(parts[0], api.Entry{Group: g, Results: []api.Result{{Name: "t", Verdict: g}}})
		parts[1] = append(parts[1], api.Entry{Group: n - 1 - g, Results: []api.Result{{Name: "t", Verdict: n - 1 - g}}})
	}
	es, code := Merge(n, parts[:])
	if code != api.OK || len(es) != n {
		t.Fatalf("%d, %d", len(es), code)
	}
	for g, e := range es {
		if !Same(e, parts[0][g]) {
			t.Fatalf("%d: %v", g, e)
		}
	}
	if es, code := Merge(n, [][]api.Entry{parts[0][:n-1], parts[1][1:]}); code != api.ErrNone || len(es) != 0 {
		t.Errorf("%d, %d", len(es), code)
	}
	if es, code := Merge(n-1, parts[:]); code != api.ErrGroup || len(es) != 0 {
		t.Errorf("%d, %d", len(es), code)
	}
	long := api.Entry{Traces: [][]api.Event{slices.Repeat([]api.Event{{Kind: api.Matched, Text: "a"}}, 100000)}}
	es, code = Merge(1, [][]api.Entry{slices.Repeat([]api.Entry{long}, 300), {cloned(long, true)}})
	if code != api.OK || len(es) != 1 || !Same(es[0], long) {
		t.Errorf("%d, %d", len(es), code)
	}
	other := cloned(long, false)
	other.Traces[0][99999].N = 1
	if _, code := Merge(1, [][]api.Entry{slices.Repeat([]api.Entry{long}, 300), {other}}); code != api.ErrGroup {
		t.Error(code)
	}
}
