package cnum

import (
	"math"
	"math/rand"
	"regexp"
	"slices"
	"strconv"
	"strings"
	"testing"
)

var (
	minusZero = math.Copysign(0, -1)
	inf       = math.Inf(1)
	nan       = math.NaN()
)

// same holds numbers against each other by their bits, so that 0 and -0 differ, and all NaNs are one.
func same(a, b complex128) bool {
	return samePart(real(a), real(b)) && samePart(imag(a), imag(b))
}

func samePart(a, b float64) bool {
	return math.IsNaN(a) && math.IsNaN(b) || math.Float64bits(a) == math.Float64bits(b)
}

// formOf is the document's form, written another way than the program's.
func formOf(z complex128) complex128 {
	parts := []float64{real(z), imag(z)}
	for i, x := range parts {
		if math.Float64bits(x) == 1<<63 {
			parts[i] = 0
		}
	}
	return complex(parts[0], parts[1])
}

const realPattern = `([0-9]+)(?:\.([0-9]+))?(?:[eE][+-]?([0-9]{1,2}))?`

var (
	wholeReal = regexp.MustCompile(`^` + realPattern + `$`)
	onlyReal  = regexp.MustCompile(`^([+-]?)(` + realPattern + `)$`)
	onlyImag  = regexp.MustCompile(`^([+-]?)(|` + realPattern + `)i$`)
	bothParts = regexp.MustCompile(`^([+-]?)(` + realPattern + `)([+-])(|` + realPattern + `)i$`)
)

// grammarPart is a part's value by the document's words, with its sign; false: the text is no real.
func grammarPart(sign, text string) (float64, bool) {
	x := 1.0
	if text != "" {
		m := wholeReal.FindStringSubmatch(text)
		if m == nil || len(m[1])+len(m[2]) > 15 {
			return 0, false
		}
		x, _ = strconv.ParseFloat(text, 64)
		if len(m[3]) == 2 && x != 0 && (x < 1e-80 || x > 1e80) {
			return 0, false
		}
	}
	if sign == "-" {
		x = 0 - x
	}
	return x, true
}

// grammar is what Parse must answer, by patterns instead of by labels.
func grammar(s string) (complex128, bool) {
	if m := onlyReal.FindStringSubmatch(s); m != nil {
		x, ok := grammarPart(m[1], m[2])
		return complex(x, 0), ok
	}
	if m := onlyImag.FindStringSubmatch(s); m != nil {
		x, ok := grammarPart(m[1], m[2])
		return complex(0, x), ok
	}
	if m := bothParts.FindStringSubmatch(s); m != nil {
		x, ok1 := grammarPart(m[1], m[2])
		y, ok2 := grammarPart(m[6], m[7])
		if ok1 && ok2 {
			return complex(x, y), true
		}
	}
	return 0, false
}

func checkParse(t *testing.T, s string) {
	t.Helper()
	want, wantOK := grammar(s)
	if !wantOK {
		want = 0
	}
	if z, ok := Parse(s); !same(z, want) || ok != wantOK {
		t.Fatalf("Parse(%q) = %v, %v, not %v, %v", s, z, ok, want, wantOK)
	}
}

// checkFind tries all pieces of a text, the first and there the longest ahead.
func checkFind(t *testing.T, s string) {
	t.Helper()
	var want complex128
	var wantFrom, wantTo int
	var wantOK bool
search:
	for from := range len(s) {
		for to := len(s); to > from; to-- {
			if z, ok := grammar(s[from:to]); ok {
				want, wantFrom, wantTo, wantOK = z, from, to, true
				break search
			}
		}
	}
	z, from, to, ok := Find(s)
	if !same(z, want) || from != wantFrom || to != wantTo || ok != wantOK {
		t.Fatalf("Find(%q) = %v, %d, %d, %v, not %v, %d, %d, %v", s, z, from, to, ok, want, wantFrom, wantTo, wantOK)
	}
}

// eachText calls f with every text of up to n of the bytes.
func eachText(bytes string, n int, f func(string)) {
	level := []string{""}
	for range n + 1 {
		var next []string
		for _, s := range level {
			f(s)
			for _, c := range []byte(bytes) {
				next = append(next, s+string(c))
			}
		}
		level = next
	}
}

// randomText is made of pieces that numbers are made of, and of some that they aren't.
func randomText(r *rand.Rand) string {
	pieces := []string{"0", "1", "9", "12", "80", "81", "1234567", "000000", "12345678901234", ".", ".", "e", "E", "e", "e+", "e-", "i", "i", "+", "-", " ", "x", "\x00", "\xff", "é", "_", "inf", "NaN", "0x1p"}
	var b strings.Builder
	for range r.Intn(9) {
		b.WriteString(pieces[r.Intn(len(pieces))])
	}
	return b.String()
}

func TestParseOrdinary(t *testing.T) { // P1.1
	for _, x := range []struct {
		s string
		z complex128
	}{
		{"2", 2}, {"-i", -1i}, {"1.5e3-2i", 1500 - 2i}, {"1+i", 1 + 1i}, {"+i", 1i}, {"i", 1i},
		{"0", 0}, {"007", 7}, {"12.50", 12.5}, {"+3", 3}, {"-3", -3}, {"2i", 2i}, {"-2.5i", -2.5i},
		{"3e2i", 300i}, {"3E2", 300}, {"3e+2", 300}, {"3e-2", 0.03}, {"3e02", 300}, {"3e-02-4E+1i", 0.03 - 40i},
		{"-1-i", -1 - 1i}, {"-1.25+0.5i", -1.25 + 0.5i}, {"1e5+1e-5i", 1e5 + 1e-5i}, {"0.1", 0.1},
	} {
		if z, ok := Parse(x.s); !ok || !same(z, x.z) {
			t.Errorf("Parse(%q) = %v, %v", x.s, z, ok)
		}
	}
}

func TestParseForm(t *testing.T) { // P1.1: no part that is parsed is -0
	for _, s := range []string{"-0", "-0i", "-0-0i", "0-0i", "-0.0e5", "-0e-99", "+0-0e99i"} {
		if z, ok := Parse(s); !ok || !same(z, 0) {
			t.Errorf("Parse(%q) = %v, %v", s, z, ok)
		}
	}
	if z, ok := Parse("-0+2i"); !ok || !same(z, 2i) {
		t.Errorf("Parse(-0+2i) = %v, %v", z, ok)
	}
}

func TestParseWrong(t *testing.T) { // P1.1
	for _, s := range []string{
		"", " ", "1 ", " 1", "+", "-", "i2", "ii", ".5", "5.", "1.", "1.e5", "1..2", "1.2.3", ".", "e5", "1e", "1e+", "1e-", "1ee5", "1e5.5", "1e+-5",
		"--1", "++i", "+-i", "1+", "1-", "1+2", "1+-2i", "1+2i+3i", "1i+2", "1i2", "1+i2", "1+2i ", "1+.5i", "1+e5i", "1j", "1I", "1,5", "1_0", "0x10", "inf", "Inf", "NaN", "+Inf", "infinity",
		"1e005", "1e123", "\x00", "1\x00", "\xff", "١", "−1",
	} {
		if z, ok := Parse(s); ok || !same(z, 0) {
			t.Errorf("Parse(%q) = %v, %v", s, z, ok)
		}
	}
}

func TestDigits(t *testing.T) { // P1.1: at most 15 digits together ahead of the e
	for size := 1; size <= 20; size++ {
		for _, digits := range []string{strings.Repeat("7", size), strings.Repeat("0", size-1) + "3", strings.Repeat("0", size)} {
			for point := 1; point <= size; point++ {
				s := digits
				if point < size {
					s = digits[:point] + "." + digits[point:]
				}
				for _, text := range []string{s, "-" + s, s + "i", s + "e2", s + "e-12", "1+" + s + "i", s + "-" + s + "i"} {
					checkParse(t, text)
					checkFind(t, "a"+text+"b")
					if _, ok := Parse(text); ok != (size <= 15) {
						t.Errorf("Parse(%q) = %v", text, ok)
					}
				}
			}
		}
	}
}

func TestExponents(t *testing.T) { // P1.1: the bounds of a real with two digits behind the e
	for s, right := range map[string]bool{
		"1e80": true, "1e+80": true, "1e81": false, "10e79": true, "10e80": false, "100e78": true, "1.00000000000001e80": false, "0.99999999999999e80": true,
		"1e-80": true, "1e-81": false, "10e-81": true, "0.1e-79": true, "0.1e-80": false, "9.99999999999999e-81": false, "1.00000000000001e-80": true,
		"0.001e83": true, "0.001e84": false, "1000e-83": true, "1000e-84": false,
		"0e99": true, "0e-99": true, "0.000e+99": true, "-1e81": false, "-1e80": true, "1e81i": false, "1-1e81i": false, "1e81-1i": false, "1e00": true, "1e09": true,
		"999999999999999e9": true, "0.00000000000001e-9": true, "999999999999999e99": false, "0.00000000000001e-99": false, "999999999999999e65": true, "999999999999999e66": false,
	} {
		checkParse(t, s)
		if _, ok := Parse(s); ok != right {
			t.Errorf("Parse(%q) = %v", s, ok)
		}
	}
	for e := -99; e <= 99; e++ {
		for _, ahead := range []string{"1", "0", "9.5", "0.0001", "123456"} {
			checkParse(t, ahead+"e"+strconv.Itoa(e))
			checkFind(t, "-"+ahead+"e"+strconv.Itoa(e)+"i")
		}
	}
}

func TestAllShortTexts(t *testing.T) { // P1.1, P1.3
	eachText("018.e+-i", 5, func(s string) {
		checkParse(t, s)
		checkFind(t, s)
	})
	eachText("1E-ix", 6, func(s string) {
		checkParse(t, s)
		checkFind(t, s)
	})
}

func TestRandomTexts(t *testing.T) { // P1.1, P1.3
	r := rand.New(rand.NewSource(1))
	for range 20000 {
		s := randomText(r)
		checkParse(t, s)
		checkFind(t, s)
	}
}

func TestFind(t *testing.T) { // P1.1
	for _, x := range []struct {
		s        string
		z        complex128
		from, to int
		ok       bool
	}{
		{"ab-3+4i.", -3 + 4i, 2, 7, true}, {"x1e5y", 1e5, 1, 4, true}, {"1e81", 1e8, 0, 3, true}, {"1e81i", 1e8, 0, 3, true}, {"1+2", 1, 0, 1, true},
		{"1+1e81i", 1, 0, 1, true}, {"--2i", -2i, 1, 4, true}, {"+-i", -1i, 1, 3, true}, {"12345678901234567", 123456789012345, 0, 15, true},
		{"123456789012345.6", 123456789012345, 0, 15, true}, {"1234567890123.456e5", 1234567890123.45, 0, 16, true}, {"1234567890123456i", 123456789012345, 0, 15, true},
		{"1+1234567890123456i", 1, 0, 1, true}, {"1.e5", 1, 0, 1, true}, {".5", 5, 1, 2, true}, {"1e+", 1, 0, 1, true}, {"1e+i", 1, 0, 1, true}, {"1e123", 1e12, 0, 4, true},
		{"i", 1i, 0, 1, true}, {"volt i", 1i, 5, 6, true}, {"2ii", 2i, 0, 2, true}, {"1+i2", 1 + 1i, 0, 3, true}, {"1-+2i", 1, 0, 1, true}, {"-0x", 0, 0, 2, true},
		{"", 0, 0, 0, false}, {"a.b", 0, 0, 0, false}, {"+-+-", 0, 0, 0, false}, {"e.E", 0, 0, 0, false}, {"\x00\xff", 0, 0, 0, false},
	} {
		if z, from, to, ok := Find(x.s); !same(z, x.z) || from != x.from || to != x.to || ok != x.ok {
			t.Errorf("Find(%q) = %v, %d, %d, %v", x.s, z, from, to, ok)
		}
	}
}

func TestLongTexts(t *testing.T) { // DOC P1: every call ends
	const size = 1 << 22
	for _, c := range []string{"+", "-", ".", "e", "x"} {
		long := strings.Repeat(c, size)
		if _, _, _, ok := Find(long); ok {
			t.Errorf("Find of %q alone", c)
		}
		if _, ok := Parse(long); ok {
			t.Errorf("Parse of %q alone", c)
		}
		if z, from, to, ok := Find(long + "-7i"); !ok || from > size || to != size+3 || imag(z) != -7 {
			t.Errorf("Find behind %q: %v, %d, %d, %v", c, z, from, to, ok)
		}
	}
	if z, from, to, ok := Find(strings.Repeat("1", size)); z != 111111111111111 || from != 0 || to != 15 || !ok {
		t.Errorf("Find of digits: %v, %d, %d, %v", z, from, to, ok)
	}
}

func TestFoundIsParsed(t *testing.T) { // P1.3
	r := rand.New(rand.NewSource(2))
	for range 20000 {
		s := randomText(r)
		z, from, to, ok := Find(s)
		if !ok {
			continue
		}
		if got, ok := Parse(s[from:to]); !ok || !same(got, z) {
			t.Fatalf("Find(%q) = %v, parsed as %v, %v", s, z, got, ok)
		}
		for k := range from {
			for end := k + 1; end <= len(s); end++ {
				if _, ok := Parse(s[k:end]); ok {
					t.Fatalf("Find(%q): %q stands ahead", s, s[k:end])
				}
			}
		}
		for end := to + 1; end <= len(s); end++ {
			if _, ok := Parse(s[from:end]); ok {
				t.Fatalf("Find(%q): %q is longer", s, s[from:end])
			}
		}
	}
}

func TestRight(t *testing.T) { // P1.1
	wrong := []float64{nan, inf, -inf}
	for _, x := range []float64{0, minusZero, 1, -1, math.MaxFloat64, -math.MaxFloat64, math.SmallestNonzeroFloat64} {
		for _, y := range []float64{0, minusZero, 2.5, math.MaxFloat64} {
			if !Right(complex(x, y)) {
				t.Errorf("Right(%v, %v)", x, y)
			}
		}
		for _, y := range wrong {
			if Right(complex(x, y)) || Right(complex(y, x)) {
				t.Errorf("Right with %v and %v", x, y)
			}
		}
	}
	for _, x := range wrong {
		for _, y := range wrong {
			if Right(complex(x, y)) {
				t.Errorf("Right(%v, %v)", x, y)
			}
		}
	}
}

func TestText(t *testing.T) { // P1.1
	for _, x := range []struct {
		z complex128
		s string
	}{
		{-1i, "0-1i"}, {1i, "0+1i"}, {0, "0"}, {2.5, "2.5"}, {-3, "-3"}, {1 + 2i, "1+2i"}, {-0.25 - 0.5i, "-0.25-0.5i"},
		{1e6, "1e+06"}, {123456, "123456"}, {1234567, "1.234567e+06"}, {0.0001, "0.0001"}, {0.00001i, "0+1e-05i"}, {complex(1, -1e100), "1-1e+100i"},
		{complex(math.MaxFloat64, math.SmallestNonzeroFloat64), "1.7976931348623157e+308+5e-324i"}, {0.1, "0.1"}, {complex(1.0/3, 0), "0.3333333333333333"},
		{complex(minusZero, minusZero), "0"}, {complex(minusZero, 1), "0+1i"}, {complex(1, minusZero), "1"}, {complex(-1, minusZero), "-1"},
		{complex(nan, 1), "?"}, {complex(1, nan), "?"}, {complex(inf, 0), "?"}, {complex(0, inf), "?"}, {complex(-inf, nan), "?"}, {complex(0, -inf), "?"},
	} {
		if got := Text(x.z); got != x.s {
			t.Errorf("Text(%v) = %q, not %q", x.z, got, x.s)
		}
	}
}

func digitsInARow(text string) int {
	most := 0
	for _, run := range regexp.MustCompile(`[0-9]+`).FindAllString(strings.ReplaceAll(text, ".", ""), -1) {
		most = max(most, len(run))
	}
	return most
}

func TestParsedIsReadBack(t *testing.T) { // P1.2, DOC P3
	tried, passed := 0, 0
	check := func(s string) {
		z, ok := Parse(s)
		if !ok {
			return
		}
		tried++
		text := Text(z)
		if digitsInARow(text) > 15 {
			return
		}
		passed++
		if got, ok := Parse(text); !ok || !same(got, z) || !same(z, formOf(z)) {
			t.Fatalf("%q is %v, its text %q is %v, %v", s, z, text, got, ok)
		}
	}
	eachText("019.e-i", 6, check)
	r := rand.New(rand.NewSource(3))
	for range 20000 {
		check(randomText(r))
		check(strconv.FormatFloat(r.NormFloat64(), 'g', 1+r.Intn(15), 64) + "-" + strconv.Itoa(r.Intn(1e9)) + "e" + strconv.Itoa(r.Intn(160)-80) + "i")
	}
	if tried < 1000 || passed < 1000 {
		t.Errorf("only %d and %d numbers tried", tried, passed)
	}
}

func TestSixtyFourthsAreReadBack(t *testing.T) { // P1.2, DOC P3
	const most = 64 << 24
	check := func(a, b int) {
		z := complex(float64(a)/64, float64(b)/64)
		if got, ok := Parse(Text(z)); !ok || !same(got, formOf(z)) {
			t.Fatalf("%v: its text %q is %v, %v", z, Text(z), got, ok)
		}
	}
	edges := []int{0, 1, 2, 63, 64, 65, 6400000, 63999999, 64000000, 64000001, most - 1, most}
	for _, a := range edges {
		for _, b := range edges {
			check(a, b)
			check(-a, b)
			check(a, -b)
			check(-a, -b)
		}
	}
	r := rand.New(rand.NewSource(4))
	for range 50000 {
		check(r.Intn(2*most+1)-most, r.Intn(2*most+1)-most)
	}
	for _, x := range []float64{0, minusZero, 1} {
		for _, y := range []float64{0, minusZero, -1} {
			z := complex(x, y)
			if got, ok := Parse(Text(z)); !ok || !same(got, formOf(z)) {
				t.Errorf("%v: its text %q is %v, %v", z, Text(z), got, ok)
			}
		}
	}
}

func TestTextTellsFormsApart(t *testing.T) { // P1.2
	parts := []float64{0, minusZero, 1, -1, 10, 1e5, 1e6, math.Nextafter(1, 2), math.Nextafter(1, 0), 0.1, 0.2, 0.30000000000000004, 0.3, 1e80, 1e300, -1e300, math.MaxFloat64, math.SmallestNonzeroFloat64, -math.SmallestNonzeroFloat64, 1e21, 123456789012345678}
	var zs []complex128
	for _, x := range parts {
		for _, y := range parts {
			zs = append(zs, complex(x, y))
		}
	}
	for _, a := range zs {
		for _, b := range zs {
			if (Text(a) == Text(b)) != same(formOf(a), formOf(b)) {
				t.Fatalf("texts of %v and %v: %q, %q", a, b, Text(a), Text(b))
			}
		}
	}
}

func TestNear(t *testing.T) { // P1.1
	for _, x := range []struct {
		a, b complex128
		tol  float64
		near bool
	}{
		{3 + 4i, 3.5 + 4i, 0.5, true}, {3 + 4i, 3 + 3.5i, 0.5, true}, {3 + 4i, 3.5 + 4.5i, 0.5, true}, {3 + 4i, 3.5 + 4.625i, 0.5, false}, {3 + 4i, 3.625 + 4i, 0.5, false},
		{3, 2.5, 0.5, true}, {2, 2, 0, true}, {2, complex(math.Nextafter(2, 3), 0), 0, false}, {2, 2, -1, true}, {2, 2, -inf, true}, {2, 2.5, -1, false}, {2, 2 + 1i, -inf, false}, {2.5 + 1i, 2 + 1i, -0.5, false},
		{0, complex(minusZero, minusZero), -1, true}, {0, complex(minusZero, 0), 0, true}, {2, 2, minusZero, true},
		{1e308, -1e308, inf, true}, {1e308, -1e308, math.MaxFloat64, false}, {1, 5 - 5i, inf, true}, {1e308, 1e308, 0, true},
		{2, 2, nan, false}, {1, 2, nan, false},
		{complex(inf, 0), complex(inf, 0), inf, false}, {complex(0, inf), complex(0, inf), 1, false}, {complex(nan, 0), complex(nan, 0), inf, false}, {0, complex(0, nan), inf, false}, {complex(0, -inf), 0, inf, false},
	} {
		if Near(x.a, x.b, x.tol) != x.near || Near(x.b, x.a, x.tol) != x.near {
			t.Errorf("Near(%v, %v, %v) isn't %v", x.a, x.b, x.tol, x.near)
		}
	}
}

func TestAdd(t *testing.T) { // P1.1
	for _, x := range []struct {
		zs  []complex128
		sum complex128
	}{
		{nil, 0}, {[]complex128{}, 0}, {[]complex128{2 - 3i}, 2 - 3i}, {[]complex128{1, 2i, 3 - 1i}, 4 + 1i}, {[]complex128{1 + 1i, -1 - 1i}, 0},
		{[]complex128{complex(minusZero, minusZero)}, 0}, {[]complex128{complex(minusZero, 1), complex(minusZero, minusZero)}, 1i},
		{[]complex128{1e16, 1, -1e16}, 0}, {[]complex128{1e16, -1e16, 1}, 1}, {[]complex128{1, 1e16, -1e16}, 0}, {[]complex128{0.1, 0.2, 0.3}, 0.6000000000000001}, {[]complex128{0.3, 0.2, 0.1}, 0.6},
		{[]complex128{1e308, 1e308, -1e308}, complex(inf, 0)}, {[]complex128{complex(inf, 1), complex(-inf, 1)}, complex(nan, 2)}, {[]complex128{complex(1, nan), 2}, complex(3, nan)}, {[]complex128{complex(0, -inf), 1}, complex(1, -inf)},
	} {
		kept := slices.Clone(x.zs)
		if got := Add(x.zs...); !same(got, x.sum) || !slices.EqualFunc(kept, x.zs, same) {
			t.Errorf("Add(%v) = %v", kept, got)
		}
	}
	if got := Add(slices.Repeat([]complex128{0.5 - 2i}, 100000)...); !same(got, 50000-200000i) {
		t.Errorf("Add of many = %v", got)
	}
}

// turned takes the quarters one by one.
func turned(z complex128, n int) complex128 {
	for ; n > 0; n-- {
		z = complex(-imag(z), real(z))
	}
	for ; n < 0; n++ {
		z = complex(imag(z), -real(z))
	}
	if Right(z) {
		return formOf(z)
	}
	return z
}

func TestTurn(t *testing.T) { // P1.1
	for _, x := range []struct {
		z    complex128
		n    int
		want complex128
	}{
		{1 + 2i, 0, 1 + 2i}, {1 + 2i, 1, -2 + 1i}, {1 + 2i, 2, -1 - 2i}, {1 + 2i, 3, 2 - 1i}, {1 + 2i, -1, 2 - 1i}, {1 + 2i, -2, -1 - 2i}, {1 + 2i, -3, -2 + 1i}, {1 + 2i, 4002, -1 - 2i}, {1 + 2i, -4001, 2 - 1i},
		{1 + 2i, math.MaxInt, 2 - 1i}, {1 + 2i, math.MinInt, 1 + 2i}, {1 + 2i, math.MinInt + 1, -2 + 1i},
		{1, 1, 1i}, {1, 2, -1}, {1, 3, -1i}, {0, 1, 0}, {0, 2, 0}, {complex(minusZero, minusZero), 0, 0}, {complex(minusZero, 5), 0, 5i},
		{complex(inf, 1), 1, complex(-1, inf)}, {complex(0, inf), 2, complex(minusZero, -inf)}, {complex(minusZero, inf), 0, complex(minusZero, inf)}, {complex(nan, 2), 3, complex(2, nan)},
	} {
		if got := Turn(x.z, x.n); !same(got, x.want) {
			t.Errorf("Turn(%v, %d) = %v, not %v", x.z, x.n, got, x.want)
		}
	}
	parts := []float64{0, minusZero, 1, -2.5, 1e308, inf, -inf, nan}
	for _, x := range parts {
		for _, y := range parts {
			for n := -9; n <= 9; n++ {
				if z := complex(x, y); !same(Turn(z, n), turned(z, n)) {
					t.Errorf("Turn(%v, %d) = %v, not %v", z, n, Turn(z, n), turned(z, n))
				}
			}
		}
	}
}

func TestFourQuarters(t *testing.T) { // P1.4
	parts := []float64{0, minusZero, 1, -1, 0.1, -1e-300, 1e308, math.MaxFloat64, -math.SmallestNonzeroFloat64}
	for _, x := range parts {
		for _, y := range parts {
			z := complex(x, y)
			one := z
			for range 4 {
				one = Turn(one, 1)
			}
			for _, got := range []complex128{one, Turn(z, 4), Turn(z, -4), Turn(Turn(z, 1), 3), Turn(Turn(z, -1), 1), Turn(Turn(z, 2), 2)} {
				if !same(got, formOf(z)) {
					t.Errorf("%v turned four times is %v", z, got)
				}
			}
		}
	}
}
