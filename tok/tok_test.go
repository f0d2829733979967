package tok

import (
	"math/rand"
	"slices"
	"strings"
	"testing"

	"colloquy/api"
)

func tokenAt(kind int, text string, at int) api.Token {
	return api.Token{Kind: kind, Text: text, At: at}
}

func num(text string, at int, z complex128) api.Token {
	return api.Token{Kind: api.Num, Text: text, At: at, Z: z}
}

// has: a text has these tokens.
func has(t *testing.T, text string, want ...api.Token) {
	t.Helper()
	if got, flaw := Tokens(text); flaw != (api.Flaw{}) || !slices.Equal(got, want) {
		t.Errorf("Tokens(%.100q) = %v, %v, not %v", text, got, flaw, want)
	}
	check(t, text)
}

// flawed: a text has this flaw.
func flawed(t *testing.T, text string, code api.Errno, at int) {
	t.Helper()
	if got, flaw := Tokens(text); flaw != (api.Flaw{Code: code, At: at}) || got != nil {
		t.Errorf("Tokens(%.100q) = %v, %v, not %d at %d", text, got, flaw, code, at)
	}
	check(t, text)
}

func TestKinds(t *testing.T) { // P13.1
	if api.Word != 1 || api.Num != 2 || api.Quote != 3 || api.Sign != 4 {
		t.Error("the kinds' numbers")
	}
	has(t, "a-1 2+3i", tokenAt(api.Word, "a-1", 0), num("2+3i", 4, 2+3i))
	has(t, "{2+3i}-i\"\\x41\"x-1=!(5)", tokenAt(api.Sign, "{", 0), num("2+3i", 1, 2+3i), tokenAt(api.Sign, "}", 5), num("-i", 6, -1i), tokenAt(api.Quote, "A", 8), tokenAt(api.Word, "x-1", 14), tokenAt(api.Sign, "=", 17), tokenAt(api.Sign, "!", 18), tokenAt(api.Sign, "(", 19), num("5", 20, 5), tokenAt(api.Sign, ")", 21))
	has(t, " \n suite # \"\n\"s\"\tgroup", tokenAt(api.Word, "suite", 3), tokenAt(api.Quote, "s", 13), tokenAt(api.Word, "group", 17))
}

func TestNothing(t *testing.T) { // P13.1
	for _, text := range []string{
		"", " ", "\t", "\n", "\r", " \t\r\n \n", strings.Repeat(" ", 65536), strings.Repeat("\n", 65536),
		"#", "# a", "#\n", "# a\n", "##", "#\n#", "#\n#\n", " #\r#\n # \"", "#\"", "#\x00\x7f\xff?@", "#\x00\x7f\xff?@\n\n", "#\r", strings.Repeat("#", 65536), strings.Repeat("#\n", 32768), "#" + strings.Repeat("?", 65535), strings.Repeat(" ", 65535) + "#",
	} {
		has(t, text)
	}
	has(t, "#a\nb", tokenAt(api.Word, "b", 3))
	has(t, "a#b\nc", tokenAt(api.Word, "a", 0), tokenAt(api.Word, "c", 4))
	has(t, "a#b\rc\nd", tokenAt(api.Word, "a", 0), tokenAt(api.Word, "d", 6)) // a byte 13 ends no remark
	has(t, "5#5\n\"#\"#", num("5", 0, 5), tokenAt(api.Quote, "#", 4))
	has(t, "{#}\n}", tokenAt(api.Sign, "{", 0), tokenAt(api.Sign, "}", 4))
}

func TestLong(t *testing.T) { // P13.1: 65536 bytes, and no more
	for _, c := range []string{"a", "{", " ", "#", "\n"} {
		text := strings.Repeat(c, 65536)
		check(t, text)
		if _, flaw := Tokens(text); flaw != (api.Flaw{}) {
			t.Errorf("65536 %q: %v", c, flaw)
		}
		flawed(t, text+c, api.ErrLong, 0)
		flawed(t, text+" ", api.ErrLong, 0)
	}
	has(t, strings.Repeat("a", 65536), tokenAt(api.Word, strings.Repeat("a", 65536), 0))
	has(t, strings.Repeat(" ", 65535)+"5", num("5", 65535, 5))
	inner := strings.Repeat("q", 65534)
	has(t, `"`+inner+`"`, tokenAt(api.Quote, inner, 0))
	if ts, _ := Tokens(strings.Repeat("=", 65536)); len(ts) != 65536 || ts[65535] != tokenAt(api.Sign, "=", 65535) {
		t.Errorf("65536 signs have %d tokens", len(ts))
	}
	if ts, _ := Tokens(strings.Repeat("+1", 32768)); len(ts) != 32768 || ts[32767] != num("+1", 65534, 1) {
		t.Errorf("32768 numbers have %d tokens", len(ts))
	}
	// What is wrong in a text that is too long isn't come to.
	for _, text := range []string{"?", "2x", `"a`, "\"\\q\"", `"`} {
		flawed(t, text+strings.Repeat(" ", 65537-len(text)), api.ErrLong, 0)
		flawed(t, strings.Repeat(text, 65537), api.ErrLong, 0)
	}
	flawed(t, strings.Repeat("a", 65535)+"?", api.ErrChar, 65535)
	flawed(t, `"`+strings.Repeat("a", 65535), api.ErrOpen, 0)
	flawed(t, "+"+strings.Repeat(" ", 65534)+"1", api.ErrChar, 0)
	if _, flaw := Tokens(string(make([]byte, 1<<26))); flaw != (api.Flaw{Code: api.ErrLong}) {
		t.Errorf("2^26 bytes: %v", flaw)
	}
}

func TestEachByteFirst(t *testing.T) { // P13.1
	for i := range 256 {
		c := string([]byte{byte(i)})
		for _, at := range []int{0, 3} {
			text := "\n \t"[:at] + c
			switch {
			case strings.Contains("abcdefghijklmnopqrstuvwxyzABCDEFGHIJKLMNOPQRSTUVWXYZ", c):
				has(t, text, tokenAt(api.Word, c, at))
			case strings.Contains("0123456789", c):
				has(t, text, num(c, at, complex(float64(i-'0'), 0)))
			case strings.Contains("{}()=!&|", c):
				has(t, text, tokenAt(api.Sign, c, at))
			case strings.Contains(" \t\r\n#", c):
				has(t, text)
			case c == `"`:
				flawed(t, text, api.ErrOpen, at)
			default: // + and - alone, too
				flawed(t, text, api.ErrChar, at)
				flawed(t, text+" a", api.ErrChar, at)
				flawed(t, "a "+text+"x5", api.ErrChar, at+2)
			}
		}
	}
}

func TestWords(t *testing.T) { // P13.1
	for _, w := range []string{"a", "Z", "az", "AZ", "i", "i2", "e5", "a0", "a9", "a-", "a--", "a_", "a_-1", "a-1-2i", "suite", strings.Repeat("w", 41), "x" + strings.Repeat("-_9", 1000)} {
		has(t, w, tokenAt(api.Word, w, 0))
		has(t, " "+w+" ", tokenAt(api.Word, w, 1))
		for i := range 256 {
			c := string([]byte{byte(i)})
			text := w + c + " x"
			if len(word.FindString("a"+c)) == 2 {
				has(t, text, tokenAt(api.Word, w+c, 0), tokenAt(api.Word, "x", len(w)+2))
			} else {
				check(t, text)
			}
		}
	}
	has(t, "a+1", tokenAt(api.Word, "a", 0), num("+1", 1, 1))
	has(t, "a-1", tokenAt(api.Word, "a-1", 0))
	has(t, "a{b", tokenAt(api.Word, "a", 0), tokenAt(api.Sign, "{", 1), tokenAt(api.Word, "b", 2))
	has(t, `a"b"c`, tokenAt(api.Word, "a", 0), tokenAt(api.Quote, "b", 1), tokenAt(api.Word, "c", 4))
	flawed(t, "_a", api.ErrChar, 0)
	flawed(t, "-a", api.ErrChar, 0)
	flawed(t, "a.b", api.ErrChar, 1)
	flawed(t, "aé", api.ErrChar, 1)
}

func TestNumbers(t *testing.T) { // P13.1
	for text, z := range map[string]complex128{
		"0": 0, "7": 7, "007": 7, "-0": 0, "+5": 5, "-5": -5, "1.5": 1.5, "-2.25": -2.25, "1e3": 1000, "1E-3": 0.001, "1e+03": 1000, "1e80": 1e80, "2i": 2i, "-2.5i": -2.5i, "+i": 1i, "-i": -1i, "1+i": 1 + 1i, "1-i": 1 - 1i, "1.5e3-2i": 1500 - 2i, "-1-1e2i": -1 - 100i, "2+3i": 2 + 3i, "123456789012345": 123456789012345, "1-0i": 1,
	} {
		has(t, text, num(text, 0, z))
		has(t, "\t"+text+"}", num(text, 1, z), tokenAt(api.Sign, "}", len(text)+1))
	}
	has(t, "2+3", num("2", 0, 2), num("+3", 1, 3))
	has(t, "1-2i-3i+i", num("1-2i", 0, 1-2i), num("-3i", 4, -3i), num("+i", 7, 1i))
	has(t, "1i-2", num("1i", 0, 1i), num("-2", 2, -2))
	has(t, `5"a"5`, num("5", 0, 5), tokenAt(api.Quote, "a", 1), num("5", 4, 5))
	for text, at := range map[string]int{
		"2x": 0, "1.2.3": 0, " 1.": 1, "1.x": 0, "1e": 0, "1e+": 0, "1ex": 0, "1e100": 0, "1e81": 0, "1e-81": 0, "12345678901234567": 0, "1234567890123456": 0, "1.234567890123456": 0, "2ix": 0, "2i2": 0, "2i.": 0, "2ii": 0, "+ia": 0, "-i5": 0, "a 1+ix": 2, "a 1+2x": 3, "1+1.5.": 1, "1+2i3": 0, "5 5a": 2, "{+5e}": 1, "-5.": 0, "1-2i3": 0, "0x41": 0, "5E": 0,
	} {
		flawed(t, text, api.ErrNum, at)
		flawed(t, text+"\n?", api.ErrNum, at)
	}
	for text, at := range map[string]int{"+": 0, "-": 0, "--5": 0, "+-5": 0, "+.5": 0, "-e5": 0, ".5": 0, "- 5": 0, "-\n5": 0, "+#\n5": 0, "5-": 1, "5+": 1, "5--5": 1, "5-x": 1, "5_": 1, "2+3i-": 4, "-_": 0, "+\"\"": 0, "-a 5": 0} {
		flawed(t, text, api.ErrChar, at)
	}
}

func TestEachByteBehindANumber(t *testing.T) { // P13.1
	const longest = "123456789012345" // no digit more is taken
	for i := range 256 {
		c := string([]byte{byte(i)})
		for _, n := range []string{longest, "1+2i", "-i", "+2.5i", longest + "e15", "5", "-0.5"} {
			for _, behind := range []string{"", " ", "x", "1", "2i", "\""} {
				check(t, n+c+behind)
				check(t, "a\n"+n+c+behind)
			}
		}
		switch {
		case strings.Contains("abcdefghijklmnopqrstuvwxyzABCDEFGHIJKLMNOPQRSTUVWXYZ0123456789.", c):
			flawed(t, "{1+2i"+c, api.ErrNum, 1)
			if c != "i" {
				flawed(t, "a "+longest+c, api.ErrNum, 2)
			}
		case strings.Contains(" \t\r\n#", c):
			has(t, "1+2i"+c, num("1+2i", 0, 1+2i))
		case strings.Contains("{}()=!&|", c):
			has(t, "1+2i"+c, num("1+2i", 0, 1+2i), tokenAt(api.Sign, c, 4))
		case c == `"`:
			flawed(t, "1+2i"+c, api.ErrOpen, 4)
		default:
			flawed(t, "1+2i"+c, api.ErrChar, 4)
		}
	}
}

func TestSigns(t *testing.T) { // P13.1
	text := "{}()=!&|"
	var want []api.Token
	for i := range len(text) {
		want = append(want, tokenAt(api.Sign, text[i:i+1], i))
	}
	has(t, text, want...)
	has(t, "!=", tokenAt(api.Sign, "!", 0), tokenAt(api.Sign, "=", 1))
	has(t, "&&||", tokenAt(api.Sign, "&", 0), tokenAt(api.Sign, "&", 1), tokenAt(api.Sign, "|", 2), tokenAt(api.Sign, "|", 3))
}

func TestWhichFlaw(t *testing.T) { // P13.1, DOC P1: the first that is come to from the left
	for _, x := range []struct {
		text string
		code api.Errno
		at   int
	}{
		{"? 2x", api.ErrChar, 0}, {"2x ?", api.ErrNum, 0}, {"2x \"", api.ErrNum, 0}, {"? \"", api.ErrChar, 0}, {"\"a\" ? \"", api.ErrChar, 4}, {"\" ? 2x", api.ErrOpen, 0}, {"\" 2x\" 2x", api.ErrNum, 6},
		{"2? 2x", api.ErrChar, 1}, {"2.?", api.ErrNum, 0}, {"2\x00", api.ErrChar, 1},
		{"\"\x01", api.ErrChar, 1}, {"\"\x01\\", api.ErrChar, 1}, {"\"\\q\x01\"", api.ErrChar, 1}, {"\"\x01\\q\"", api.ErrChar, 1}, {"\"a\\q", api.ErrChar, 2}, {"\"a\\x4\x01", api.ErrChar, 2}, {"\"a\\x\x01\"", api.ErrChar, 2}, {"\"a\\\x01\"", api.ErrChar, 2}, {"\"\\\n", api.ErrChar, 1}, {"\"\n", api.ErrChar, 1}, {"\"ab\n\"", api.ErrChar, 3},
		{"\"a\" \"b\x7f\" \"", api.ErrChar, 6}, {"\"a\" \"b \"c\"", api.ErrOpen, 9}, {"a \"b\" \"c", api.ErrOpen, 6}, {"# \"\n\"a", api.ErrOpen, 4}, {"\"# \n\"", api.ErrChar, 3},
		{"a?b", api.ErrChar, 1}, {"{]", api.ErrChar, 1}, {"\\n", api.ErrChar, 0}, {"'a'", api.ErrChar, 0}, {"a;", api.ErrChar, 1}, {"\x0b", api.ErrChar, 0}, {"\x0c a", api.ErrChar, 0}, {"\xc2\xa0", api.ErrChar, 0}, {"a \xef\xbb\xbf", api.ErrChar, 2},
	} {
		flawed(t, x.text, x.code, x.at)
	}
}

func TestAllShort(t *testing.T) { // P13.1
	for _, text := range texts("a1i.e-+ ", 6) {
		check(t, text)
	}
	for _, text := range texts("\"\\x4gn\n\x7fa", 5) {
		check(t, "\""+text)
		check(t, "= \""+text)
	}
	for _, text := range texts("#\n\ra\"{?-", 5) {
		check(t, text)
	}
	for _, text := range texts("1e80+i", 6) {
		check(t, text)
	}
}

func TestAnyBytes(t *testing.T) { // P13.1
	r := rand.New(rand.NewSource(13))
	bytes := "aZ_--01279..eEii++\"\"\"\"\\\\xntfg#\n\r\t  {}()=!&|?\x00\x1f\x7f\x80\xff"
	for range 60000 {
		text := make([]byte, r.Intn(24))
		for i := range text {
			text[i] = bytes[r.Intn(len(bytes))]
			if r.Intn(20) == 0 {
				text[i] = byte(r.Intn(256))
			}
		}
		check(t, string(text))
	}
}

func TestAnyTexts(t *testing.T) { // P13.1
	r := rand.New(rand.NewSource(14))
	for range 4000 {
		text := anyText(r, r.Intn(20))
		check(t, text)
		if _, flaw := Tokens(text); flaw != (api.Flaw{}) {
			t.Fatalf("%q: %v", text, flaw)
		}
		if text == "" {
			continue
		}
		cut := r.Intn(len(text))
		check(t, text[:cut])
		check(t, text[cut:])
		spoilt := []byte(text)
		spoilt[cut] = byte(r.Intn(256))
		check(t, string(spoilt))
	}
}
