package cursor

import (
	"reflect"
	"strings"
	"testing"

	"colloquy/api"
)

func TestTree(t *testing.T) {
	parse := func(c *Cursor) api.Node {
		for !c.Over() {
			if c.Is("!") {
				panic(api.Flaw{Code: api.ErrSign, At: c.At()})
			}
			c.Take()
		}
		return api.Node{Kind: c.At()}
	}
	for pattern, want := range map[string]api.Flaw{"": {}, "abc": {}, "ab!": {Code: api.ErrSign, At: 2}, strings.Repeat("a", 256): {}, strings.Repeat("!", 257): {Code: api.ErrLong}} {
		n, code, at := Tree(pattern, parse)
		kind := len(pattern)
		if want.Code != api.OK {
			kind = 0
		}
		if code != want.Code || at != want.At || !reflect.DeepEqual(n, api.Node{Kind: kind}) {
			t.Errorf("Tree(%.10q) = %v, %d, %d", pattern, n, code, at)
		}
	}
}

func TestSkipAndTake(t *testing.T) {
	Tree("abc", func(c *Cursor) api.Node {
		if c.Is("b") || c.Skip("ac") || c.Skip("abcd") || c.At() != 0 || !c.Is("ab") || !c.Skip("a") || c.At() != 1 || c.Take() != 'b' || c.Over() || !c.Skip("c") || !c.Over() || c.Is("c") || c.At() != 3 {
			t.Errorf("at %d", c.At())
		}
		return api.Node{}
	})
	if _, code, at := Tree("ab", func(c *Cursor) api.Node { return api.Node{Kind: int(c.Take() + c.Take() + c.Take())} }); code != api.ErrEnd || at != 2 {
		t.Errorf("behind the end: %d at %d", code, at)
	}
}

func TestRange(t *testing.T) {
	for pattern, want := range map[string]struct {
		r       api.Range
		behind  int
		code    api.Errno
		faultAt int
	}{
		"a":    {r: api.Range{Lo: 'a', Hi: 'a'}, behind: 1},
		"a-c]": {r: api.Range{Lo: 'a', Hi: 'c'}, behind: 3},
		"a-]":  {r: api.Range{Lo: 'a', Hi: 'a'}, behind: 1},
		"--]":  {r: api.Range{Lo: '-', Hi: '-'}, behind: 1},
		"---":  {r: api.Range{Lo: '-', Hi: '-'}, behind: 3},
		"c-a":  {code: api.ErrRange},
		"a-":   {code: api.ErrEnd, faultAt: 2},
		"":     {code: api.ErrEnd},
	} {
		_, code, at := Tree(pattern, func(c *Cursor) api.Node {
			if r := c.Range((*Cursor).Take); r != want.r || c.At() != want.behind {
				t.Errorf("Range of %q = %v, up to %d", pattern, r, c.At())
			}
			return api.Node{}
		})
		if code != want.code || at != want.faultAt {
			t.Errorf("Range of %q: %d at %d", pattern, code, at)
		}
	}
}
