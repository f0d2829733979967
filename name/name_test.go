package name

import (
	"fmt"
	"math/big"
	"math/rand"
	"regexp"
	"slices"
	"strings"
	"testing"

	"colloquy/api"
)

// written is the document's way of writing, by a pattern for each byte instead of by a walk.
func written(s string) string {
	if len(s) < 1 || len(s) > 80 {
		return ""
	}
	out := ""
	for i, c := range []byte(s) {
		inner := i != 0 && i != len(s)-1
		if c > 32 && c < 127 && c != 92 || c == 32 && inner {
			out += string(rune(c))
		} else {
			out += fmt.Sprintf("\\%02x", c)
		}
	}
	return out
}

// randomName is of up to n bytes, many of them at the edges of what stands for itself.
func randomName(r *rand.Rand, n int) string {
	edges := []byte{0, 10, 31, 32, 32, 33, '\\', '0', 'a', 'f', 'A', 126, 127, 128, 255}
	out := make([]byte, r.Intn(n+1))
	for i := range out {
		out[i] = edges[r.Intn(len(edges))]
		if r.Intn(4) == 0 {
			out[i] = byte(r.Intn(256))
		}
	}
	return string(out)
}

func TestRight(t *testing.T) { // P2.1
	for size, right := range map[int]bool{0: false, 1: true, 2: true, 79: true, 80: true, 81: false, 1000000: false} {
		for _, c := range []string{"a", "\x00", " ", "\xff"} {
			if Right(strings.Repeat(c, size)) != right {
				t.Errorf("Right of %d %q isn't %v", size, c, right)
			}
		}
	}
	if api.MaxName != 80 || Right(strings.Repeat("é", 41)) || !Right(strings.Repeat("é", 40)) {
		t.Error("a name's length is counted in bytes")
	}
}

func TestWrite(t *testing.T) { // P2.1
	for s, w := range map[string]string{
		"a b\n\\": `a b\0a\5c`, " x ": `\20x\20`, "a": "a", " ": `\20`, "  ": `\20\20`, "   ": `\20 \20`, "a  b": "a  b", " a": `\20a`, "a ": `a\20`,
		"\x00": `\00`, "\x1f": `\1f`, "!": "!", "~": "~", "\x7f": `\7f`, "\x80": `\80`, "\xff": `\ff`, "é": `\c3\a9`, `\`: `\5c`, `\0a`: `\5c0a`, "a\tb": `a\09b`, `"'`: `"'`,
		"": "",
	} {
		if got := Write(s); got != w {
			t.Errorf("Write(%q) = %q, not %q", s, got, w)
		}
	}
	for _, c := range []string{"a", " ", "\x00", `\`} {
		if s := strings.Repeat(c, 80); Write(s) != written(s) || Write(s) == "" {
			t.Errorf("Write of 80 %q = %q", c, Write(s))
		}
		if Write(strings.Repeat(c, 81)) != "" || Write(strings.Repeat(c, 100000)) != "" {
			t.Errorf("Write of more than 80 %q", c)
		}
	}
	for c := range 256 {
		for _, s := range []string{string([]byte{byte(c)}), string([]byte{byte(c), 'x'}), string([]byte{'x', byte(c)}), string([]byte{'x', byte(c), 'x'})} {
			if Write(s) != written(s) {
				t.Errorf("Write(%q) = %q, not %q", s, Write(s), written(s))
			}
		}
	}
}

func TestReadWrong(t *testing.T) { // P2.1
	for _, w := range []string{
		"", `\`, `\0`, `a\`, `a\0`, `\0A`, `\0g`, `\gg`, `\g0`, `\ 0`, `\0 `, `\\`, `\n`, `\x0a`, `\41`, `\7e`, `\21`, `a\20b`, `\2a`, `\5C`, `\-1`,
		" ", " x", "x ", "a\n", "\n", "\x00", "\x1f", "\x7f", "a\x80b", "é", `\5`, `\20\20\20`,
		strings.Repeat("a", 81), strings.Repeat(`\00`, 81), strings.Repeat(`\00`, 80) + "a", strings.Repeat("a", 1000000),
	} {
		if s, ok := Read(w); ok || s != "" {
			t.Errorf("Read(%q) = %q, %v", w, s, ok)
		}
	}
}

func TestReadRight(t *testing.T) { // P2.1
	for w, s := range map[string]string{
		"a": "a", "a b": "a b", `\20`: " ", `\20\20`: "  ", `\20 \20`: "   ", `a b\0a\5c`: "a b\n\\", `\5c0a`: `\0a`, `\ff`: "\xff", `\7f`: "\x7f", `\00`: "\x00",
		strings.Repeat("a", 80): strings.Repeat("a", 80), strings.Repeat(`\00`, 80): strings.Repeat("\x00", 80),
	} {
		if got, ok := Read(w); !ok || got != s {
			t.Errorf("Read(%q) = %q, %v", w, got, ok)
		}
	}
}

func TestWrittenIsRead(t *testing.T) { // P2.2, DOC P3
	allowed := regexp.MustCompile(`^[!-~]([ -~]*[!-~])?$`)
	r := rand.New(rand.NewSource(1))
	by := map[string]string{}
	for range 50000 {
		s := randomName(r, 3)
		if r.Intn(4) == 0 {
			s = randomName(r, 80)
		}
		if s == "" {
			continue
		}
		w := Write(s)
		if w != written(s) || !allowed.MatchString(w) {
			t.Fatalf("Write(%q) = %q", s, w)
		}
		if got, ok := Read(w); !ok || got != s {
			t.Fatalf("Write(%q) = %q, read as %q, %v", s, w, got, ok)
		}
		if other, ok := by[w]; ok && other != s {
			t.Fatalf("%q and %q are both written %q", s, other, w)
		}
		by[w] = s
	}
}

func TestOnlyWrittenIsRead(t *testing.T) { // P2.2
	bytes := []byte{' ', 'a', '\\', '0', '2', '5', 'c', 'C', '\n', 0xff}
	level := []string{""}
	for range 6 {
		var next []string
		for _, w := range level {
			s, ok := Read(w)
			if ok && (!Right(s) || Write(s) != w) || !ok && s != "" {
				t.Fatalf("Read(%q) = %q, %v, which is written %q", w, s, ok, Write(s))
			}
			for _, c := range bytes {
				next = append(next, w+string([]byte{c}))
			}
		}
		level = next
	}
}

func TestWord(t *testing.T) { // P2.1
	word := regexp.MustCompile(`^[a-zA-Z][a-zA-Z0-9_-]{0,39}$`)
	for _, s := range []string{
		"a", "z", "A", "Z", "a-1_B", "a-", "a_", "a0", "a9", strings.Repeat("a", 39), strings.Repeat("a", 40), strings.Repeat("a", 41), "a" + strings.Repeat("9", 39), "a" + strings.Repeat("-", 40),
		"", "1a", "-a", "_a", "a b", " a", "a ", "a.b", "a\n", "aé", "é", "a\x00", "a\xff", strings.Repeat("a", 100000),
	} {
		if Word(s) != word.MatchString(s) || strings.HasSuffix(s, "\n") && Word(s) {
			t.Errorf("Word(%q) = %v", s, Word(s))
		}
	}
	for c := range 256 {
		first, second := string([]byte{byte(c)}), string([]byte{'a', byte(c)})
		isLetter := c >= 'a' && c <= 'z' || c >= 'A' && c <= 'Z'
		if Word(first) != isLetter || Word(second) != (isLetter || c >= '0' && c <= '9' || c == '-' || c == '_') {
			t.Errorf("Word with byte %d: %v, %v", c, Word(first), Word(second))
		}
	}
	if !Word(strings.Repeat("a", 40)) || Word(strings.Repeat("a", 41)) {
		t.Error("a word has up to 40 bytes")
	}
}

var piece = regexp.MustCompile(`(?s)^([0-9]+|.)`)

// order is the document's order of names, taking the texts' pieces off one by one.
func order(a, b string) int {
	sign := map[bool]int{true: -1, false: 1}
	for a != "" && b != "" {
		x, y := firstPiece(a), firstPiece(b)
		a, b = a[len(x):], b[len(y):]
		if x == y {
			continue
		}
		v, ok1 := new(big.Int).SetString(x, 10)
		w, ok2 := new(big.Int).SetString(y, 10)
		if !ok1 || !ok2 {
			return sign[x[0] < y[0]]
		}
		if v.Cmp(w) != 0 {
			return v.Cmp(w)
		}
		return sign[len(x) < len(y)]
	}
	if a == b {
		return 0
	}
	return sign[a == ""]
}

func firstPiece(s string) string {
	if s[0] < '0' || s[0] > '9' {
		return s[:1]
	}
	return piece.FindString(s)
}

func TestCmp(t *testing.T) { // P2.1
	rising := []string{
		"", "\x00", " ", "/", "0", "0 ", "00", "000", "1", "1\x00", "1a", "1a1", "1a2", "1a02", "1a10", "01", "01a", "001", "2", "2b", "02", "9", "10", "010", "11", "99", "100",
		"18446744073709551615", "18446744073709551616", "018446744073709551616", "99999999999999999999999", "100000000000000000000000", ":", "A", "a", "a ", "a0", "a00", "a1", "a1b", "a1c", "a2", "a02", "a10", "a10.2", "a10.02", "a10.10", "ab", "b", "t2", "t02", "t10", "\x7f", "\x80", "\xff", "\xff\xff",
	}
	for i, a := range rising {
		for k, b := range rising {
			want := 0
			if i < k {
				want = -1
			} else if i > k {
				want = 1
			}
			if got := Cmp(a, b); got != want || order(a, b) != want {
				t.Errorf("Cmp(%q, %q) = %d, not %d (by pieces %d)", a, b, got, want, order(a, b))
			}
		}
	}
}

func shortTexts() []string {
	texts := []string{""}
	from := 0
	for range 4 {
		to := len(texts)
		for _, s := range texts[from:to] {
			for _, c := range []string{"0", "1", "2", "a", " "} {
				texts = append(texts, s+c)
			}
		}
		from = to
	}
	return texts
}

func TestCmpIsAnOrder(t *testing.T) { // P2.3
	texts := shortTexts()
	r := rand.New(rand.NewSource(2))
	for range 200 {
		texts = append(texts, randomName(r, 12))
	}
	slices.Sort(texts)
	texts = slices.Compact(texts)
	slices.SortFunc(texts, Cmp)
	// Cmp is an order just if each pair of the sorted row stands as the row says.
	for i, a := range texts {
		for k, b := range texts {
			want := 0
			if i < k {
				want = -1
			} else if i > k {
				want = 1
			}
			if got := Cmp(a, b); got != want || got != order(a, b) {
				t.Fatalf("Cmp(%q, %q) = %d, not %d", a, b, got, want)
			}
		}
	}
}

func TestCmpOfLongTexts(t *testing.T) { // DOC P1: every call ends
	zeros, nines, letters := strings.Repeat("0", 1<<20), strings.Repeat("9", 1<<20), strings.Repeat("a", 1<<20)
	mixed := strings.Repeat("a1", 1<<20)
	for _, x := range []struct {
		a, b string
		want int
	}{
		{zeros, zeros + "0", -1}, {zeros + "1", "2", -1}, {zeros + "2", "1", 1}, {nines, nines + "0", -1}, {nines, nines, 0}, {zeros + nines, nines, 1}, {letters, letters + "a", -1}, {mixed + "2", mixed + "02", -1}, {mixed + "b2", mixed + "b02", -1}, {mixed, mixed, 0},
	} {
		if Cmp(x.a, x.b) != x.want || Cmp(x.b, x.a) != -x.want {
			t.Errorf("Cmp of long texts (%d and %d bytes) isn't %d", len(x.a), len(x.b), x.want)
		}
	}
}
