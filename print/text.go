package print

import (
	"strconv"
	"strings"

	"colloquy/api"
	"colloquy/cnum"
	"colloquy/tok"
)

// writer writes a text line by line.
type writer struct {
	strings.Builder
	deep int // { that the next line stands within
}

func (w *writer) line(text string) {
	w.WriteString(strings.Repeat("  ", w.deep))
	w.WriteString(text)
	w.WriteByte('\n')
}

// block writes a line that ends with a {, the lines that inner writes, and one of the }.
func (w *writer) block(head string, inner func()) {
	w.line(head + " {")
	w.deep++
	inner()
	w.deep--
	w.line("}")
}

// testHead is what of a test's line is the same for tests of all kinds.
func testHead(t api.Test) string {
	parts := []string{"test", tok.Quoted(t.Name), "budget", strconv.Itoa(t.Budget)}
	for _, c := range t.Xfail {
		if text := Cond(c); text != "" {
			parts = append(parts, "xfail", text)
		}
	}
	return strings.Join(parts, " ")
}

// condText is a right condition's text.
func condText(c api.Cond) string {
	switch c.Kind {
	case api.Is:
		return c.Name + " = " + tok.Quoted(c.Val)
	case api.Isnt:
		return c.Name + " != " + tok.Quoted(c.Val)
	case api.Not:
		return "!" + kidText(c.Kids[0], c.Kind)
	case api.And:
		return kidsText(c, " & ")
	}
	return kidsText(c, " | ")
}

func kidsText(c api.Cond, between string) string {
	var texts []string
	for _, kid := range c.Kids {
		texts = append(texts, kidText(kid, c.Kind))
	}
	return strings.Join(texts, between)
}

// kidText is the text of a right condition within one of a kind: in ( ), if it would come apart there.
func kidText(kid api.Cond, within int) string {
	text := condText(kid)
	if kid.Kind == api.Or || kid.Kind == api.And && within != api.Or {
		return "(" + text + ")"
	}
	return text
}

// number is a number's text; that of 0, if it isn't right.
func number(z complex128) string {
	if !cnum.Right(z) {
		z = 0
	}
	return cnum.Text(z)
}
