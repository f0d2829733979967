package merge

import (
	"reflect"
	"testing"

	"colloquy/api"
)

// orders are all orders of some entries.
func orders(es []api.Entry) [][]api.Entry {
	if len(es) == 0 {
		return [][]api.Entry{nil}
	}
	var all [][]api.Entry
	for _, rest := range orders(es[1:]) {
		for i := range len(rest) + 1 {
			one := append(append(append([]api.Entry{}, rest[:i]...), es[0]), rest[i:]...)
			all = append(all, one)
		}
	}
	return all
}

// spread puts entries into three parts, as the digits of way to the base 3 say.
func spread(es []api.Entry, way int) [][]api.Entry {
	parts := make([][]api.Entry, 3)
	for _, e := range es {
		parts[way%3] = append(parts[way%3], e)
		way /= 3
	}
	return parts
}

// TestEveryOrder has all orders of some entries, in all ways spread over three parts. What is answered is the same to the last, nil or empty lists too.
func TestEveryOrder(t *testing.T) { // P22.2, DOC P2
	bare := func(empty bool) api.Entry { return cloned(api.Entry{Group: 1}, empty) }
	other := entry(0)
	other.Traces[1] = append(other.Traces[1], api.Event{Kind: api.Passed})
	for i, x := range []struct {
		n    int
		es   []api.Entry
		code api.Errno
	}{
		{3, []api.Entry{entry(0), entry(1), entry(2)}, api.OK},
		{2, []api.Entry{cloned(entry(0), true), cloned(entry(0), false), bare(true), bare(false), entry(0)}, api.OK},
		{5, []api.Entry{entry(4), entry(3), entry(2), entry(1), entry(0)}, api.OK},
		{1, []api.Entry{entry(0), entry(0), entry(0), entry(0)}, api.OK},
		{3, []api.Entry{entry(0), entry(2), entry(0), entry(2)}, api.ErrNone},
		{4, []api.Entry{entry(1), entry(2), entry(3)}, api.ErrNone},
		{2, []api.Entry{entry(0), entry(1), entry(0), other, entry(1)}, api.ErrGroup},
		{3, []api.Entry{entry(0), entry(1), other, entry(1)}, api.ErrGroup},
		{2, []api.Entry{entry(0), entry(1), entry(2), entry(1)}, api.ErrGroup},
		{3, []api.Entry{entry(0), entry(-1), entry(0)}, api.ErrGroup},
	} {
		ways := 1
		for range x.es {
			ways *= 3
		}
		first, code := Merge(x.n, [][]api.Entry{x.es})
		if code != x.code || code == api.OK && len(first) != x.n {
			t.Fatalf("case %d: %v, %d, not %d", i, first, code, x.code)
		}
		for _, es := range orders(x.es) {
			for way := range ways {
				parts := spread(es, way)
				got, code := Merge(x.n, parts)
				if code != x.code || !reflect.DeepEqual(got, first) {
					t.Fatalf("case %d, %v: %v, %d, not %v, %d", i, parts, got, code, first, x.code)
				}
			}
		}
	}
}

// TestOften has the same parts again and again.
func TestOften(t *testing.T) { // P22.2, DOC P2
	parts := [][]api.Entry{groups(7, 3, 5), groups(0, 6), nil, groups(1, 2, 4, 7)}
	for often := range 40 {
		all := make([][]api.Entry, 0, 4*often)
		for range often + 1 {
			all = append(all, parts...)
		}
		if es, code := Merge(8, all); code != api.OK || toldAll(es) != toldAll(groups(0, 1, 2, 3, 4, 5, 6, 7)) {
			t.Fatalf("%v, %d", es, code)
		}
	}
}
