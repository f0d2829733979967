package tok

import (
	"fmt"
	"math/rand"
	"strings"
	"testing"

	"colloquy/api"
)

func TestEscapes(t *testing.T) { // P13.1
	for text, means := range map[string]string{
		`""`: "", `"a"`: "a", `" "`: " ", `"a b # {}=?'"`: "a b # {}=?'", `"\n"`: "\n", `"\t"`: "\t", `"\\"`: `\`, `"\""`: `"`, `"\x41"`: "A", `"\x00\xff\x0a\x7f\x22\x5c"`: "\x00\xff\n\x7f\"\\", `"\xab\xcd\xef"`: "\xab\xcd\xef", `"\x411"`: "A1", `"\x4142"`: "A42",
		`"\\n"`: `\n`, `"\\\n"`: "\\\n", `"\\\\"`: `\\`, `"\\\""`: `\"`, `"\\x41"`: `\x41`, `"\nn\tt"`: "\nn\tt", "\"~\x80\xff\"": "~\x80\xff", `"é"`: "é", "\"\xc3\"": "\xc3",
	} {
		has(t, text, tokenAt(api.Quote, means, 0))
		has(t, " "+text+text, tokenAt(api.Quote, means, 1), tokenAt(api.Quote, means, 1+len(text)))
	}
	has(t, `"\\" "`+`"`, tokenAt(api.Quote, `\`, 0), tokenAt(api.Quote, "", 5))
}

func TestEachByteBehindABackslash(t *testing.T) { // P13.1
	means := map[byte]string{'n': "\n", 't': "\t", '\\': `\`, '"': `"`}
	for i := range 256 {
		c := byte(i)
		text := string([]byte{'{', '"', 'a', '\\', c})
		m, ok := means[c]
		switch {
		case ok:
			has(t, text+`"`, tokenAt(api.Sign, "{", 0), tokenAt(api.Quote, "a"+m, 1))
			flawed(t, text, api.ErrOpen, 1)
		case c == 'x':
			flawed(t, text, api.ErrOpen, 1)
			flawed(t, text+`"`, api.ErrChar, 3)
		default:
			flawed(t, text, api.ErrChar, 3)
			flawed(t, text+`"`, api.ErrChar, 3)
		}
	}
}

func TestEachDigit(t *testing.T) { // P13.1
	for i := range 256 {
		c := string([]byte{byte(i)})
		if !strings.Contains("0123456789abcdef", c) {
			for _, text := range []string{`"\x` + c, `"\x4` + c} {
				flawed(t, text, api.ErrChar, 1)
				flawed(t, text+`4"`, api.ErrChar, 1)
				flawed(t, "a "+text+`"`, api.ErrChar, 3)
			}
			continue
		}
		value := strings.Index("0123456789abcdef", c)
		has(t, `"\x4`+c+`"`, tokenAt(api.Quote, string([]byte{byte(64 + value)}), 0))
		has(t, `"\x`+c+`2"`, tokenAt(api.Quote, string([]byte{byte(16*value + 2)}), 0))
		flawed(t, `"\x`+c, api.ErrOpen, 0)
		flawed(t, `"\x`+c+`"`, api.ErrChar, 1)
	}
}

func TestEachByteInAQuote(t *testing.T) { // P13.1
	for i := range 256 {
		c := string([]byte{byte(i)})
		for _, ahead := range []string{"", "ab", `\n`, `\x41`, `\\`} {
			from := 1 + len(ahead)
			switch {
			case i < 32 || i == 127:
				flawed(t, `"`+ahead+c+`"`, api.ErrChar, from)
				flawed(t, ` "`+ahead+c, api.ErrChar, from+1)
			case c == `"`:
				has(t, `"`+ahead+c, tokenAt(api.Quote, meaning(ahead), 0))
			case c == `\`:
				flawed(t, `"`+ahead+c, api.ErrOpen, 0)
			default:
				has(t, `"`+ahead+c+`"`, tokenAt(api.Quote, meaning(ahead)+c, 0))
				flawed(t, `"`+ahead+c, api.ErrOpen, 0)
			}
		}
	}
}

func TestCutOff(t *testing.T) { // P13.1: the text is over at each place in a quote
	const whole = `"a\n\t\\\"\x4fb \x00é\\"`
	for size := 1; size < len(whole); size++ {
		flawed(t, whole[:size], api.ErrOpen, 0)
		flawed(t, `a "b" `+whole[:size], api.ErrOpen, 6)
	}
	has(t, whole, tokenAt(api.Quote, "a\n\t\\\"\x4fb \x00é\\", 0))
}

func TestQuoted(t *testing.T) { // P13.1
	for s, q := range map[string]string{
		"": `""`, "a": `"a"`, "a b": `"a b"`, "\n\t": `"\n\t"`, `\`: `"\\"`, `"`: `"\""`, `\n`: `"\\n"`, "\r": `"\x0d"`, "\x00\x1f\x7f\x80\xff": `"\x00\x1f\x7f\x80\xff"`, " ~": `" ~"`, "é": `"\xc3\xa9"`, "'#{": `"'#{"`, "a\t\"\\\n\x01\x7fé": `"a\t\"\\\n\x01\x7f\xc3\xa9"`, "\x001": `"\x001"`,
	} {
		if got := Quoted(s); got != q {
			t.Errorf("Quoted(%q) = %s, not %s", s, got, q)
		}
	}
	own := map[byte]string{'\n': `"\n"`, '\t': `"\t"`, '\\': `"\\"`, '"': `"\""`}
	for i := range 256 {
		want, ok := own[byte(i)]
		if !ok && (i < 32 || i > 126) {
			want = fmt.Sprintf("\"\\x%02x\"", i)
		} else if !ok {
			want = fmt.Sprintf("\"%c\"", i)
		}
		if got := Quoted(string([]byte{byte(i)})); got != want {
			t.Errorf("Quoted of byte %d = %s, not %s", i, got, want)
		}
	}
	if q := Quoted(strings.Repeat("\xff", 1<<20)); q != `"`+strings.Repeat(`\xff`, 1<<20)+`"` {
		t.Error("Quoted of a long text")
	}
}

// readBack: a quote that is made is one token that means the text.
func readBack(t *testing.T, s string) {
	t.Helper()
	q := Quoted(s)
	ts, flaw := Tokens(q)
	if flaw != (api.Flaw{}) || len(ts) != 1 || ts[0] != tokenAt(api.Quote, s, 0) {
		t.Fatalf("%.100q as %.100s is read as %v, %v", s, q, ts, flaw)
	}
}

func TestQuotedIsReadBack(t *testing.T) { // P13.2, DOC P3
	readBack(t, "")
	for a := range 256 {
		readBack(t, string([]byte{byte(a)}))
		for b := range 256 {
			readBack(t, string([]byte{byte(a), byte(b)}))
		}
	}
	for _, s := range texts("\\\"xn4\n\xff", 5) {
		readBack(t, s)
	}
	r := rand.New(rand.NewSource(2))
	for range 3000 {
		b := make([]byte, r.Intn(60))
		for i := range b {
			b[i] = byte(r.Intn(256))
		}
		readBack(t, string(b))
	}
	readBack(t, strings.Repeat("a", 65534))
	readBack(t, strings.Repeat("\xff", 16383))
	flawed(t, Quoted(strings.Repeat("a", 65535)), api.ErrLong, 0)
}
