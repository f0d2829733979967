package suite

import (
	"fmt"
	"math"
	"reflect"
	"strings"
	"testing"

	"colloquy/api"
	"colloquy/tok"
)

// form is the document's grammar. Words that stand for themselves have a ' ahead, and what may be open only so often has a rule of its own.
const form = `
suite    := 'suite Quote { board } { group }
board    := 'board Quote "{" { Word "=" Quote } "}"
group    := 'group Quote "{" { test } "}"
test     := 'test Quote [ 'budget Count ] { 'xfail cond } ( 'untested | 'unsupported | block )
block    := "{" { step } "}"
step     := 'send Quote | 'expect Count clauses | 'loop Count block | 'near Num Amount | 'pass | 'fail | 'wait Count
clauses  := "{" { clause } "}"
clause   := ( 'exact | 'glob | 'regex ) Quote [ 'again ] block | ( 'late | 'eof | 'death | 'full ) [ 'again ] block
cond     := both { "|" both }
both     := not { "&" not }
not      := negation | parens | Word "=" Quote | Word "!" "=" Quote
negation := "!" not
parens   := "(" cond ")"
`

// rule is a part of the grammar: where, from a place on, it may end.
type rule func(w *walk, at int) []int

// walk goes all ways that the grammar has through a text's tokens.
type walk struct {
	rules         map[string]rule
	tokens        []api.Token
	blocks, opens int
	far           int  // the farthest place where some token was looked for
	word, deep    bool // there: a word may stand; what stands there would be open too often
}

// grammar are the rules of form.
func grammar() map[string]rule {
	rules := map[string]rule{}
	for _, l := range strings.Split(strings.TrimSpace(form), "\n") {
		name, right, _ := strings.Cut(l, ":=")
		symbols := strings.Fields(right)
		rules[strings.TrimSpace(name)] = either(&symbols)
	}
	return rules
}

// either reads what stands up to the end, or up to a bracket that closes.
func either(symbols *[]string) rule {
	ways := []rule{func(_ *walk, at int) []int { return []int{at} }}
	for len(*symbols) > 0 {
		s := (*symbols)[0]
		*symbols = (*symbols)[1:]
		last := len(ways) - 1
		switch s {
		case ")", "]", "}":
			return union(ways...)
		case "|":
			ways = append(ways, func(_ *walk, at int) []int { return []int{at} })
		case "(":
			ways[last] = chain(ways[last], either(symbols))
		case "[":
			inner := either(symbols)
			ways[last] = chain(ways[last], union(inner, func(_ *walk, at int) []int { return []int{at} }))
		case "{":
			ways[last] = chain(ways[last], often(either(symbols)))
		default:
			ways[last] = chain(ways[last], symbol(s))
		}
	}
	return union(ways...)
}

func union(ways ...rule) rule {
	return func(w *walk, at int) []int {
		var ends []int
		for _, way := range ways {
			ends = append(ends, way(w, at)...)
		}
		return ends
	}
}

func chain(a, b rule) rule {
	return func(w *walk, at int) []int {
		var ends []int
		for _, end := range a(w, at) {
			ends = append(ends, b(w, end)...)
		}
		return ends
	}
}

func often(inner rule) rule {
	return func(w *walk, at int) []int {
		ends := []int{at}
		for i := 0; i < len(ends); i++ {
			ends = append(ends, inner(w, ends[i])...)
		}
		return ends
	}
}

// symbol is a rule by its name, or one token.
func symbol(s string) rule {
	return func(w *walk, at int) []int {
		if inner := w.rules[s]; inner != nil {
			blocks, opens := w.blocks, w.opens
			switch s {
			case "block", "clauses":
				w.blocks++
			case "negation", "parens":
				w.opens++
			}
			ends := inner(w, at)
			w.blocks, w.opens = blocks, opens
			return ends
		}
		if at > w.far {
			w.far, w.word, w.deep = at, false, false
		}
		isWord := s == "Word" || s[0] == '\''
		if at == w.far && isWord {
			w.word = true
		}
		if at == len(w.tokens) || !stands(s, w.tokens[at]) {
			return nil
		}
		if s == `"{"` && w.blocks > 6 || (s == `"!"` || s == `"("`) && w.opens > 8 {
			w.deep = w.deep || at == w.far
			return nil
		}
		return []int{at + 1}
	}
}

// stands tells whether a token may stand for a symbol.
func stands(s string, t api.Token) bool {
	whole := t.Z == complex(math.Trunc(real(t.Z)), 0)
	switch s {
	case "Word":
		return t.Kind == 1
	case "Num":
		return t.Kind == 2
	case "Count":
		return t.Kind == 2 && whole && real(t.Z) > -1 && real(t.Z) < 1000000001
	case "Amount":
		return t.Kind == 2 && imag(t.Z) == 0 && !(real(t.Z) < 0)
	case "Quote":
		return t.Kind == 3
	}
	if s[0] == '\'' {
		return t.Kind == 1 && t.Text == s[1:]
	}
	return t.Kind == 4 && t.Text == strings.Trim(s, `"`)
}

var rules = grammar()

// plainFlaw is what is wrong with a text, by the grammar.
func plainFlaw(text string) api.Flaw {
	tokens, flaw := tok.Tokens(text)
	if flaw.Code != api.OK {
		return flaw
	}
	w := &walk{rules: rules, tokens: tokens, far: -1}
	for _, end := range symbol("suite")(w, 0) {
		if end == len(tokens) {
			return api.Flaw{}
		}
	}
	switch {
	case w.far == len(tokens):
		return api.Flaw{Code: 140, At: len(text)}
	case w.deep:
		return api.Flaw{Code: 141, At: tokens[w.far].At}
	case w.word && tokens[w.far].Kind == 1:
		return api.Flaw{Code: 142, At: tokens[w.far].At}
	}
	return api.Flaw{Code: 140, At: tokens[w.far].At}
}

var nils = strings.NewReplacer("[]api.Prop{}", "[]api.Prop(nil)", "[]api.Cond{}", "[]api.Cond(nil)", "[]api.Step{}", "[]api.Step(nil)", "[]api.Clause{}", "[]api.Clause(nil)", "[]api.Board{}", "[]api.Board(nil)", "[]api.Group{}", "[]api.Group(nil)", "[]api.Test{}", "[]api.Test(nil)")

// told is a suite with all its fields; lists of nothing are told like nil ones.
func told(s api.Suite) string {
	return nils.Replace(fmt.Sprintf("%#v", s))
}

// check holds a text's flaw against the grammar.
func check(t *testing.T, text string) (api.Suite, api.Flaw) {
	t.Helper()
	s, flaw := Parse(text)
	if want := plainFlaw(text); flaw != want {
		t.Fatalf("Parse(%q): %v, not %v", text, flaw, want)
	}
	if flaw != (api.Flaw{}) && !reflect.DeepEqual(s, api.Suite{}) {
		t.Fatalf("Parse(%q): %v, and %v", text, flaw, s)
	}
	return s, flaw
}

// has: a text has this suite.
func has(t *testing.T, text string, want api.Suite) {
	t.Helper()
	if got, flaw := check(t, text); flaw != (api.Flaw{}) || told(got) != told(want) {
		t.Errorf("Parse(%q) = %#v, %v, not %#v", text, got, flaw, want)
	}
}

// flawed: a text has this flaw, where the ^ is.
func flawed(t *testing.T, text string, code api.Errno) {
	t.Helper()
	ahead, behind, _ := strings.Cut(text, "^")
	if _, flaw := check(t, ahead+behind); flaw != (api.Flaw{Code: code, At: len(ahead)}) {
		t.Errorf("Parse(%q): %v, not %d", text, flaw, code)
	}
}
