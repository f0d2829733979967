package pack

import (
	"bytes"
	"errors"
	"math"
	"math/rand"
	"runtime"
	"slices"
	"strings"
	"testing"

	"colloquy/api"
)

// reads: f reads all of b.
func reads(t *testing.T, b []byte, f func(r *Reader)) {
	t.Helper()
	over := false
	code := Read(b, func(r *Reader) {
		f(r)
		over = true
	})
	if code != api.OK || !over {
		t.Fatalf("Read of %d bytes (%.20v) = %d, over %v", len(b), b, code, over)
	}
}

// refuses: a call of f's finds other bytes in b; f isn't gone on with, and the Reader stays where it was.
func refuses(t *testing.T, b []byte, f func(r *Reader)) {
	t.Helper()
	over, left := false, -1
	code := Read(b, func(r *Reader) {
		defer func() { left = r.Left() }()
		f(r)
		over = true
	})
	if code != api.ErrForm || over || left != len(b) {
		t.Fatalf("Read of %d bytes (%.20v) = %d, over %v, %d left", len(b), b, code, over, left)
	}
}

func readNum(r *Reader) { r.Num() }

// isNumber tells by the writing whether bytes are a number's: no other bytes than those may be read as one.
func isNumber(b []byte) (int64, bool) {
	var n int64
	for i, x := range b {
		if i > 8 {
			return 0, false
		}
		n += int64(x%128) << (7 * i)
	}
	return n, bytes.Equal(b, groups(n))
}

// checkNumber holds Num and Int against isNumber at bytes that may be a number's.
func checkNumber(t *testing.T, b []byte) {
	t.Helper()
	for end := range len(b) + 1 {
		want, is := isNumber(b[:end])
		if !is {
			continue
		}
		reads(t, b[:end], func(r *Reader) {
			if got := r.Num(); got != want || r.Left() != 0 {
				t.Fatalf("Num of %v = %d, not %d", b[:end], got, want)
			}
		})
		if end < len(b) && Read(b, readNum) != api.ErrForm {
			t.Fatalf("Num of %v leaves bytes, and is OK", b)
		}
		return
	}
	refuses(t, b, readNum)
	refuses(t, b, func(r *Reader) { r.Int(math.MaxInt) })
	refuses(t, b, func(r *Reader) { r.Text(math.MaxInt) })
}

func TestNumbersAreReadBack(t *testing.T) { // P8.2
	r := rand.New(rand.NewSource(1))
	ns := edgeNums()
	for range 5000 {
		ns = append(ns, int64(r.Uint64())>>r.Intn(64))
	}
	for _, n := range ns {
		b := Num(nil, n)
		want := min(max(n, 0), 1<<62)
		reads(t, b, func(r *Reader) {
			if got := r.Num(); got != want {
				t.Fatalf("Num(%d) is read as %d", n, got)
			}
		})
		for end := range b {
			refuses(t, b[:end], readNum)
		}
	}
}

func TestNumberBytes(t *testing.T) { // P8.1, P8.2
	checkNumber(t, nil)
	checkNumber(t, []byte{})
	for x := range 256 {
		checkNumber(t, []byte{byte(x)})
		for y := range 256 {
			checkNumber(t, []byte{byte(x), byte(y)})
		}
	}
	edges := []byte{0, 1, 2, 63, 64, 65, 126, 127, 128, 129, 191, 192, 254, 255}
	for long := 3; long <= 12; long++ {
		for _, fill := range []byte{128, 129, 255} {
			for _, last := range edges {
				for _, ahead := range edges {
					b := append(bytes.Repeat([]byte{fill}, long-2), ahead, last)
					checkNumber(t, b)
					b[0] = 129
					checkNumber(t, b)
				}
			}
		}
	}
	r := rand.New(rand.NewSource(2))
	for range 20000 {
		b := someBytes(r, 12)
		for i := range b {
			if r.Intn(4) > 0 {
				b[i] |= 128
			}
		}
		checkNumber(t, b)
	}
}

func TestWrongNumbers(t *testing.T) { // P8.1, P8.2
	eight := bytes.Repeat([]byte{128}, 8)
	for _, b := range [][]byte{
		{}, {128}, {255}, {128, 0}, {255, 0}, {128, 128, 0}, {129, 128, 128, 0},
		append(slices.Clone(eight), 65),                             // above 2^62
		append([]byte{129}, append(slices.Clone(eight[:7]), 64)...), // 2^62 + 1
		append(slices.Clone(eight), 127),
		append(slices.Clone(eight), 128),
		append(slices.Clone(eight), 0),
		append(slices.Clone(eight), 128, 0),
		append(slices.Clone(eight), 192, 0),
		append(slices.Clone(eight), 128, 1),
		append(slices.Clone(eight), 128, 128, 128, 128, 128, 128, 1),
		bytes.Repeat([]byte{128}, 1000),
		bytes.Repeat([]byte{255}, 1000),
	} {
		refuses(t, b, readNum)
		refuses(t, b, func(r *Reader) { r.Int(math.MaxInt) })
		refuses(t, b, func(r *Reader) { r.Text(math.MaxInt) })
	}
}

func TestInt(t *testing.T) { // P8.1
	mosts := []int{math.MinInt, -128, -1, 0, 1, 5, 127, 128, 1 << 40, 1<<62 - 1, 1 << 62, 1<<62 + 1, math.MaxInt}
	for _, n := range edgeNums() {
		n = min(max(n, 0), 1<<62)
		for _, most := range append(mosts, int(n)-1, int(n), int(n)+1) {
			b := Num(nil, n)
			if n > int64(most) {
				refuses(t, b, func(r *Reader) { r.Int(most) })
				continue
			}
			reads(t, b, func(r *Reader) {
				if got := r.Int(most); int64(got) != n {
					t.Fatalf("Int(%d) of %d = %d", most, n, got)
				}
			})
		}
	}
	refuses(t, nil, func(r *Reader) { r.Int(5) })
}

func TestTexts(t *testing.T) { // P8.1, P8.2
	r := rand.New(rand.NewSource(3))
	for _, size := range []int{0, 1, 2, 20, 127, 128, 200, 20000} {
		s := make([]byte, size)
		r.Read(s)
		b := Text(nil, string(s))
		for _, most := range []int{size, size + 1, math.MaxInt} {
			reads(t, b, func(r *Reader) {
				if got := r.Text(most); got != string(s) {
					t.Fatalf("Text(%d) of %d bytes is another text", most, size)
				}
			})
		}
		for _, most := range []int{size - 1, -1, math.MinInt} {
			refuses(t, b, func(r *Reader) { r.Text(most) })
		}
		for end := range min(len(b), 300) {
			refuses(t, b[:end], func(r *Reader) { r.Text(math.MaxInt) })
			refuses(t, b[:len(b)-1-end], func(r *Reader) { r.Text(size) })
		}
	}
	refuses(t, Num(nil, 1<<62), func(r *Reader) { r.Text(math.MaxInt) })
	refuses(t, append(Num(nil, 1<<62), 'a'), func(r *Reader) { r.Text(math.MaxInt) })
	refuses(t, append([]byte{129, 0}, 'a'), func(r *Reader) { r.Text(5) })
	refuses(t, append(Num(nil, 1<<32+1), 'a'), func(r *Reader) { r.Text(math.MaxInt) })
}

func TestNeed(t *testing.T) { // P8.1
	for _, b := range [][]byte{nil, {1}, {1, 2, 3}} {
		refuses(t, b, func(r *Reader) { r.Need(false) })
		reads(t, b, func(r *Reader) {
			r.Need(true)
			for range b {
				r.Num()
				r.Need(true)
			}
		})
	}
	if code := Read([]byte{1}, func(r *Reader) { r.Need(true) }); code != api.ErrForm {
		t.Errorf("Need(true) has read a byte: %d", code)
	}
}

func TestLeft(t *testing.T) { // P8.1
	b := Num(Text(Num(nil, 300), "abc"), 7) // 2, 4 and 1 bytes
	reads(t, b, func(r *Reader) {
		lefts := []int{r.Left()}
		r.Num()
		lefts = append(lefts, r.Left())
		r.Need(true)
		r.Text(3)
		lefts = append(lefts, r.Left(), r.Left())
		r.Int(7)
		lefts = append(lefts, r.Left())
		if !slices.Equal(lefts, []int{7, 5, 1, 1, 0}) {
			t.Errorf("Left = %v", lefts)
		}
	})
	reads(t, nil, func(r *Reader) {
		if r.Left() != 0 {
			t.Errorf("Left of no bytes = %d", r.Left())
		}
	})
}

func TestBytesLeft(t *testing.T) { // P8.1
	for _, b := range [][]byte{{0}, {1, 2}, {128}, make([]byte, 1000)} {
		over := false
		if code := Read(b, func(r *Reader) { over = true }); code != api.ErrForm || !over {
			t.Errorf("f reads nothing of %d bytes: %d, over %v", len(b), code, over)
		}
		if code := Read(b, nil); code != api.ErrForm {
			t.Errorf("nil reads nothing of %d bytes: %d", len(b), code)
		}
	}
	if code := Read([]byte{1, 2, 3}, func(r *Reader) { r.Num(); r.Num() }); code != api.ErrForm {
		t.Errorf("f leaves a byte: %d", code)
	}
	for _, f := range []func(r *Reader){nil, func(r *Reader) {}, func(r *Reader) { r.Left() }} {
		if Read(nil, f) != api.OK || Read([]byte{}, f) != api.OK {
			t.Error("no byte is left, and it isn't OK")
		}
	}
}

// item is something that is written and read: a number, a number up to a bound, or a text.
type item struct {
	kind int
	n    int64
	s    string
}

func (x item) write(b []byte) []byte {
	if x.kind == 2 {
		return Text(b, x.s)
	}
	return Num(b, x.n)
}

func (x item) read(r *Reader) item {
	switch x.kind {
	case 0:
		return item{kind: 0, n: r.Num()}
	case 1:
		return item{kind: 1, n: int64(r.Int(int(x.n)))}
	}
	return item{kind: 2, s: r.Text(len(x.s))}
}

func TestAllIsReadBack(t *testing.T) { // P8.2
	r := rand.New(rand.NewSource(4))
	for range 3000 {
		var b []byte
		var items []item
		for range r.Intn(8) {
			x := item{kind: r.Intn(3)}
			if x.kind == 2 {
				x.s = string(someBytes(r, 150))
			} else {
				x.n = r.Int63() >> (1 + r.Intn(62))
			}
			items = append(items, x)
			b = x.write(b)
		}
		readAll := func(r *Reader) {
			for _, x := range items {
				if got := x.read(r); got != x {
					panic(got)
				}
			}
		}
		reads(t, b, readAll)
		for range 5 {
			if end := r.Intn(len(b) + 1); end < len(b) && Read(b[:end], readAll) != api.ErrForm {
				t.Fatalf("a beginning of %v is read as %v", b, items)
			}
		}
		if Read(append(slices.Clip(b), 0), readAll) != api.ErrForm {
			t.Fatalf("%v and a byte more is read as %v", b, items)
		}
	}
}

func TestRefusedInTheMiddle(t *testing.T) { // P8.1
	b := []byte{1, 128, 0, 3, 'a'}
	var seen []int64
	code := Read(b, func(r *Reader) {
		seen = append(seen, r.Num())
		seen = append(seen, r.Num())
		seen = append(seen, 99)
	})
	if code != api.ErrForm || !slices.Equal(seen, []int64{1}) {
		t.Errorf("%d, %v", code, seen)
	}
}

// refused lets a call be refused, and recovers what that panics with.
func refused(call func()) (cause any) {
	defer func() { cause = recover() }()
	call()
	return nil
}

// TestRefusedReader has functions that recover from a refusal themselves: they don't read b as said, whatever they do then.
func TestRefusedReader(t *testing.T) { // P8.1, P1
	wrong := map[string]func(r *Reader){
		"Int":  func(r *Reader) { r.Int(5) },
		"Text": func(r *Reader) { r.Text(5) },
		"Need": func(r *Reader) { r.Need(false) },
	}
	then := map[string]func(r *Reader){
		"nothing": func(r *Reader) {},
		"Num":     func(r *Reader) { r.Num() },
		"Int":     func(r *Reader) { r.Int(9) },
		"Text":    func(r *Reader) { r.Text(9) },
		"Need":    func(r *Reader) { r.Need(true) },
		"Left":    func(r *Reader) { r.Left() },
	}
	for name, first := range wrong {
		for nameThen, second := range then {
			left := -1
			code := Read([]byte{6, 0}, func(r *Reader) {
				if refused(func() { first(r) }) == nil {
					t.Errorf("%s wasn't refused", name)
				}
				left = r.Left()
				second(r)
				r.Num()
			})
			if code != api.ErrForm || left != 2 {
				t.Errorf("%s refused, then %s: %d, %d left", name, nameThen, code, left)
			}
		}
	}
	if code := Read(nil, func(r *Reader) { refused(func() { r.Need(false) }) }); code != api.ErrForm {
		t.Errorf("no bytes left behind a refusal: %d", code)
	}
	if code := Read(nil, func(r *Reader) { panic(refused(func() { r.Num() })) }); code != api.ErrForm {
		t.Errorf("a refusal that goes on: %d", code)
	}
	if code := Read(nil, func(r *Reader) {
		defer func() { r.Num() }()
		r.Need(false)
	}); code != api.ErrForm {
		t.Errorf("a refusal in a refusal: %d", code)
	}
}

// TestKeptReader calls a Reader behind the Read that has made it: there is nothing to read, and nothing to end.
func TestKeptReader(t *testing.T) { // P1, P8.4
	for _, f := range []func(r *Reader){
		func(r *Reader) {},
		func(r *Reader) { r.Num() },
		func(r *Reader) { r.Need(false) },
		func(r *Reader) { panic("f's own") },
	} {
		var kept *Reader
		refused(func() { Read([]byte{5, 6, 7}, func(r *Reader) { kept = r; f(r) }) })
		for range 2 {
			if kept.Left() != 0 || kept.Num() != 0 || kept.Int(9) != 0 || kept.Int(-1) != 0 || kept.Text(9) != "" || kept.Text(-1) != "" {
				t.Error("a kept Reader reads")
			}
			kept.Need(true)
			kept.Need(false)
		}
	}
}

func TestOwnPanics(t *testing.T) { // P8.1, P1
	anError := errors.New("f's own")
	var other any
	Read(nil, func(r *Reader) { other = refused(func() { r.Need(false) }) })
	for _, value := range []any{"f's own", "", 0, 80, api.OK, api.ErrForm, api.Flaw{Code: api.ErrForm}, anError, false, 1.5, new(int), &Reader{}, struct{}{}, other} {
		if got := refused(func() { Read([]byte{1}, func(r *Reader) { panic(value) }) }); got != value {
			t.Errorf("panic(%v) goes on as %v", value, got)
		}
		if got := refused(func() {
			Read([]byte{128}, func(r *Reader) {
				defer func() { panic(value) }()
				r.Num()
			})
		}); got != value {
			t.Errorf("panic(%v) behind a refusal goes on as %v", value, got)
		}
	}
	var isNil *runtime.PanicNilError
	if got, ok := refused(func() { Read(nil, func(r *Reader) { panic(nil) }) }).(error); !ok || !errors.As(got, &isNil) {
		t.Errorf("panic(nil) goes on as %v", got)
	}
	var fault runtime.Error
	if got, ok := refused(func() { Read(nil, func(r *Reader) { _ = []int{}[r.Left()] }) }).(error); !ok || !errors.As(got, &fault) || !strings.Contains(got.Error(), "index out of range") {
		t.Errorf("an index out of its range goes on as %v", got)
	}
	list := []int{1}
	if got, ok := refused(func() { Read(nil, func(r *Reader) { panic(list) }) }).([]int); !ok || &got[0] != &list[0] {
		t.Errorf("panic of a list goes on as %v", got)
	}
}

// TestReadInRead has a Read in another's function: each ends at its own Reader's refusals alone.
func TestReadInRead(t *testing.T) { // P8.1
	var inner api.Errno
	behind := false
	if code := Read([]byte{1, 7}, func(r *Reader) {
		r.Num()
		inner = Read([]byte{128}, func(s *Reader) { s.Num() })
		behind = r.Num() == 7
	}); code != api.OK || inner != api.ErrForm || !behind {
		t.Errorf("the inner one is refused: %d, inner %d, %v", code, inner, behind)
	}
	inner, behind = -1, false
	if code := Read([]byte{128}, func(r *Reader) {
		inner = Read([]byte{1}, func(s *Reader) {
			s.Num()
			r.Num()
			behind = true
		})
		behind = true
	}); code != api.ErrForm || inner != -1 || behind {
		t.Errorf("the outer one is refused in the inner: %d, inner %d, %v", code, inner, behind)
	}
	if code := Read([]byte{5}, func(r *Reader) {
		inner = Read([]byte{6}, func(s *Reader) { behind = r.Num() == 5 && s.Num() == 6 })
	}); code != api.OK || inner != api.OK || !behind {
		t.Errorf("both are read: %d, inner %d, %v", code, inner, behind)
	}
}
