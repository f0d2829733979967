package book

import (
	"bytes"
	"fmt"
	"math/big"
	"regexp"
	"slices"
	"strconv"
	"strings"

	"colloquy/api"
)

// same tells whether two entries are the same, where nil lists are empty ones.
func same(a, b api.Entry) bool {
	return a.Group == b.Group && slices.Equal(a.Results, b.Results) && slices.EqualFunc(a.Traces, b.Traces, slices.Equal)
}

// The chapter's forms, with the Kinds' numbers; and what is right in layers 2 and 18.

var plainForms = strings.Split("none|spawned N|sent Text|matched N Text|filled N Text|over N|dead N|late N|spent|nofuel|close|far|passed|failed|waited N", "|")

func plainHas(kind int, what string) bool {
	return strings.Contains(plainForms[kind], what)
}

// plainAlone tells whether an event is right by itself.
func plainAlone(e api.Event) bool {
	if e.Kind < 1 || e.Kind > 14 || e.At < 0 {
		return false
	}
	ends := slices.Contains([]int{5, 6, 7}, e.Kind)
	return (plainHas(e.Kind, "Text") || e.Text == "") && (plainHas(e.Kind, " N") || e.N == 0) && (e.N >= 0 || e.N == -1 && ends)
}

func plainDecides(e api.Event) bool {
	return slices.Contains([]int{8, 9, 11, 12, 13}, e.Kind) || e.N == -1
}

func plainTrace(es []api.Event) bool {
	for i, e := range es {
		switch {
		case !plainAlone(e), plainDecides(e) && i < len(es)-1, e.Kind == 1 && e.At != 0, e.Kind != 1 && i > 0 && e.At < es[i-1].At:
			return false
		}
	}
	return true
}

func plainName(s string) bool {
	return s != "" && len(s) <= 80
}

func plainRight(e api.Entry) bool {
	if e.Group < 0 || e.Group > 1048576 || len(e.Results) != len(e.Traces) {
		return false
	}
	for i, r := range e.Results {
		if !plainName(r.Name) || r.Verdict < 1 || r.Verdict > 7 || !plainTrace(e.Traces[i]) {
			return false
		}
		for _, x := range e.Traces[i] {
			if x.N > 1099511627776 || x.At > 1125899906842624 || len(x.Text) > 1048576 {
				return false
			}
		}
	}
	return true
}

func plainQuote(s string) string {
	var out strings.Builder
	for _, b := range []byte(s) {
		switch short := strings.IndexByte("\n\t\\\"", b); {
		case short >= 0:
			out.WriteString(`\` + `nt\"`[short:short+1])
		case b < 32 || b > 126:
			fmt.Fprintf(&out, `\x%02x`, b)
		default:
			out.WriteByte(b)
		}
	}
	return `"` + out.String() + `"`
}

func plainLine(e api.Event) string {
	if !plainAlone(e) {
		return ""
	}
	out := plainForms[e.Kind]
	if n := fmt.Sprint(e.N); e.N == -1 {
		out = strings.Replace(out, "N", "-", 1)
	} else {
		out = strings.Replace(out, "N", n, 1)
	}
	return fmt.Sprint(e.At) + " " + strings.Replace(out, "Text", plainQuote(e.Text), 1)
}

const (
	plainDigits = `(0|[1-9][0-9]*)`
	plainQuoted = `"((?:[ !#-\[\]-~]|\\[nt\\"]|\\x(?:0[0-8b-f]|1[0-9a-f]|7f|[89a-f][0-9a-f]))*)"`
)

// plainLines are the patterns of the Kinds' lines.
func plainLines() []*regexp.Regexp {
	var all []*regexp.Regexp
	for kind, form := range plainForms {
		n := plainDigits
		if slices.Contains([]int{5, 6, 7}, kind) {
			n = `(-|0|[1-9][0-9]*)`
		}
		form = strings.NewReplacer("N", n, "Text", plainQuoted).Replace(form)
		all = append(all, regexp.MustCompile(`^`+plainDigits+" "+form+`$`))
	}
	return all
}

var (
	plainPatterns = plainLines()
	plainEscape   = regexp.MustCompile(`\\(?:[nt\\"]|x..)`)
)

func plainMeans(quoted string) string {
	return plainEscape.ReplaceAllStringFunc(quoted, func(escape string) string {
		if b, err := strconv.ParseUint(escape[2:], 16, 8); err == nil {
			return string([]byte{byte(b)})
		}
		return map[string]string{`\n`: "\n", `\t`: "\t", `\\`: `\`, `\"`: `"`}[escape]
	})
}

func plainParse(s string) (api.Event, bool) {
	for kind := 1; kind <= 14; kind++ {
		m := plainPatterns[kind].FindStringSubmatch(s)
		if m == nil {
			continue
		}
		e := api.Event{Kind: kind}
		ticks, err := strconv.ParseInt(m[1], 10, 64)
		if err != nil {
			return api.Event{}, false
		}
		e.At = ticks
		if plainHas(kind, " N") {
			n, err := strconv.ParseInt(strings.Replace(m[2], "-", "-1", 1), 10, 64)
			if err != nil {
				return api.Event{}, false
			}
			e.N = int(n)
		}
		if plainHas(kind, "Text") {
			e.Text = plainMeans(m[len(m)-1])
		}
		return e, true
	}
	return api.Event{}, false
}

func plainWritten(is string) string {
	out := ""
	for i, b := range []byte(is) {
		if b > 32 && b < 127 && b != '\\' || b == 32 && i > 0 && i < len(is)-1 {
			out += string(rune(b))
		} else {
			out += fmt.Sprintf(`\%02x`, b)
		}
	}
	return out
}

var plainVerdicts = []string{"", "PASS", "FAIL", "XPASS", "XFAIL", "UNRESOLVED", "UNTESTED", "UNSUPPORTED"}

func plainLog(suite, board string, groups []string, es []api.Entry) string {
	right := plainName(suite) && plainName(board)
	for _, e := range es {
		right = right && plainRight(e) && e.Group < len(groups) && plainName(groups[e.Group])
	}
	if !right {
		return ""
	}
	var out strings.Builder
	fmt.Fprintf(&out, "Log of %s\nBoard %s\n", plainWritten(suite), plainWritten(board))
	for _, e := range es {
		fmt.Fprintf(&out, "group %s\n", plainWritten(groups[e.Group]))
		for i, r := range e.Results {
			fmt.Fprintf(&out, "test %s: %s\n", plainWritten(r.Name), plainVerdicts[r.Verdict])
			for _, x := range e.Traces[i] {
				fmt.Fprintf(&out, "  %s\n", plainLine(x))
			}
		}
	}
	return out.String() + "end\n"
}

// plainNum is a number's bytes, by division.
func plainNum(n int64) []byte {
	rest, low := big.NewInt(n), new(big.Int)
	var b []byte
	for rest.Cmp(big.NewInt(127)) > 0 {
		rest.DivMod(rest, big.NewInt(128), low)
		b = append(b, byte(low.Int64())+128)
	}
	return append(b, byte(rest.Int64()))
}

// plainBytes are an entry's bytes, right or not.
func plainBytes(e api.Entry) []byte {
	b := slices.Concat(plainNum(int64(e.Group)), plainNum(int64(len(e.Results))))
	for i, r := range e.Results {
		b = append(b, plainNum(int64(len(r.Name)))...)
		b = append(b, r.Name...)
		b = append(b, plainNum(int64(r.Verdict))...)
		b = append(b, plainNum(int64(len(e.Traces[i])))...)
		for _, x := range e.Traces[i] {
			b = append(b, plainNum(int64(x.Kind))...)
			b = append(b, plainNum(int64(x.N)+1)...)
			b = append(b, plainNum(x.At)...)
			b = append(b, plainNum(int64(len(x.Text)))...)
			b = append(b, x.Text...)
		}
	}
	return b
}

// plainUnpack is the entry that bytes may be of at all, if they are just its bytes.
func plainUnpack(b []byte) (api.Entry, bool) {
	rest, ok := b, true
	num := func() int64 {
		n, shift := int64(0), 0
		for i, x := range rest {
			if shift > 56 {
				break
			}
			n += int64(x%128) << shift
			if shift += 7; x < 128 {
				rest = rest[i+1:]
				return n
			}
		}
		ok = false
		return 0
	}
	text := func() string {
		n := num()
		if n < 0 || n > int64(len(rest)) {
			ok = false
			return ""
		}
		s := string(rest[:n])
		rest = rest[n:]
		return s
	}
	e := api.Entry{Group: int(num())}
	for left := num(); left > 0 && ok; left-- {
		e.Results = append(e.Results, api.Result{Name: text()})
		e.Results[len(e.Results)-1].Verdict = int(num())
		var es []api.Event
		for events := num(); events > 0 && ok; events-- {
			var x api.Event
			x.Kind, x.N, x.At = int(num()), int(num()-1), num()
			x.Text = text()
			es = append(es, x)
		}
		e.Traces = append(e.Traces, es)
	}
	if !ok || !plainRight(e) || !bytes.Equal(plainBytes(e), b) {
		return api.Entry{}, false
	}
	return e, true
}
