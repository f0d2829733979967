package rex

import (
	"strings"

	"colloquy/api"
	"colloquy/glob"
)

const (
	signs      = `|()*+?.[\` // what has a backslash out of a class
	classSigns = `]^-\`      // and what has one in it
)

// Text is a pattern of a tree.
func Text(n api.Node) string {
	// The open nodes are a list and not calls within calls: a tree may be deeper than those can go.
	var w writer
	w.begin(n, false)
	for len(w.open) > 0 {
		w.goOn()
	}
	return w.out.String()
}

type writer struct {
	out  strings.Builder
	open []opened // each one within the one ahead
}

// opened is a node of which something is still to be written.
type opened struct {
	kind   int
	kids   []api.Node
	next   int    // the kid that comes next
	behind string // what comes behind the kids
}

// begin writes what of a node comes ahead of its kids.
func (w *writer) begin(n api.Node, within bool) {
	switch n.Kind {
	case api.Set:
		w.out.WriteString(setText(n.Ranges))
	case api.Cat, api.Alt:
		behind := ""
		if within {
			w.out.WriteByte('(')
			behind = ")"
		}
		w.open = append(w.open, opened{kind: n.Kind, kids: n.Kids, behind: behind})
	case api.Star, api.Plus, api.Maybe:
		if len(n.Kids) > 0 {
			w.open = append(w.open, opened{kind: n.Kind, kids: n.Kids[:1], behind: signText(n.Kind)})
		}
	}
}

// goOn begins the next kid of the innermost open node, or ends the node, if there is none.
func (w *writer) goOn() {
	last := len(w.open) - 1
	o := w.open[last]
	if o.next == len(o.kids) {
		w.out.WriteString(o.behind)
		w.open = w.open[:last]
		return
	}
	w.open[last].next++
	if o.kind == api.Alt && o.next > 0 {
		w.out.WriteByte('|')
	}
	kid := o.kids[o.next]
	w.begin(kid, kid.Kind == api.Alt || kid.Kind == api.Cat && o.kind != api.Alt)
}

func signText(kind int) string {
	switch kind {
	case api.Star:
		return "*"
	case api.Plus:
		return "+"
	}
	return "?"
}

func setText(ranges []api.Range) string {
	rs, others := glob.Ranges(ranges, false), glob.Ranges(ranges, true)
	switch {
	case len(rs) == 1 && rs[0] == one(rs[0].Lo):
		return letterText(rs[0].Lo, signs)
	case len(others) == 1 && others[0] == one('\n'):
		return "."
	case len(rs) == 0 || len(others) > 0 && len(others) < len(rs): // [] is no class, and neither is [^]
		return "[^" + rangesText(others) + "]"
	}
	return "[" + rangesText(rs) + "]"
}

func rangesText(rs []api.Range) string {
	var out strings.Builder
	for _, r := range rs {
		out.WriteString(letterText(r.Lo, classSigns))
		if r != one(r.Lo) {
			out.WriteByte('-')
			out.WriteString(letterText(r.Hi, classSigns))
		}
	}
	return out.String()
}

// letterText is a byte as letter takes it, where these signs don't mean themselves.
func letterText(b byte, signs string) string {
	switch {
	case b == '\n':
		return `\n`
	case b == '\t':
		return `\t`
	case strings.IndexByte(signs, b) >= 0:
		return string([]byte{'\\', b})
	}
	return string([]byte{b})
}
