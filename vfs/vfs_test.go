package vfs

import (
	"math"
	"slices"
	"strings"
	"testing"

	"colloquy/api"
)

func is(t *testing.T, what string, got, want api.Errno) {
	t.Helper()
	if got != want {
		t.Errorf("%s = %d, not %d", what, got, want)
	}
}

func ok(t *testing.T, codes ...api.Errno) {
	t.Helper()
	for i, code := range codes {
		if code != api.OK {
			t.Fatalf("call %d = %d", i, code)
		}
	}
}

// holds: a file has these bytes.
func holds(t *testing.T, d *FS, name, want string) {
	t.Helper()
	if b, code := d.Read(name); code != api.OK || string(b) != want {
		t.Errorf("Read(%q) = %q, %d, not %q", name, b, code, want)
	}
}

func hasNames(t *testing.T, d *FS, want ...string) {
	t.Helper()
	if got := d.Names(); !slices.Equal(got, want) {
		t.Errorf("Names() = %q, not %q", got, want)
	}
}

func hasRoom(t *testing.T, d *FS, want int) {
	t.Helper()
	if got := d.Room(); got != want {
		t.Errorf("Room() = %d, not %d", got, want)
	}
}

// with is a disk with files of which the bytes ahead of a | are safe.
func with(t *testing.T, room int, files ...string) *FS {
	t.Helper()
	d := New(room)
	for _, f := range files {
		name, content, _ := strings.Cut(f, "=")
		safe, torn, _ := strings.Cut(content, "|")
		ok(t, d.Create(name), d.Append(name, []byte(safe)), d.Sync(name), d.Append(name, []byte(torn)))
	}
	return d
}

func TestExamples(t *testing.T) { // P7.1
	d := New(100)
	ok(t, d.Create("a"), d.Append("a", []byte("abc")), d.Sync("a"), d.Append("a", []byte("de")))
	d.Crash([]int{1})
	holds(t, d, "a", "abcd")

	d = New(3)
	ok(t, d.Create("a"))
	is(t, "Append of 4 bytes", d.Append("a", []byte("abcd")), api.ErrRoom)
	holds(t, d, "a", "")
	hasRoom(t, d, 3)
}

func TestRooms(t *testing.T) { // P7.1, P7.3
	for room, want := range map[int]int{math.MinInt: 0, -1: 0, 0: 0, 1: 1, math.MaxInt: math.MaxInt} {
		d := New(room)
		hasRoom(t, d, want)
		hasNames(t, d)
		if d.Down() {
			t.Errorf("New(%d) is down", room)
		}
		ok(t, d.Create("a"), d.Append("a", nil))
		if want == 0 {
			is(t, "Append without room", d.Append("a", []byte("x")), api.ErrRoom)
			holds(t, d, "a", "")
		} else {
			ok(t, d.Append("a", []byte("x")))
			hasRoom(t, d, want-1)
		}
	}
	d := with(t, 5, "a=ab", "b=")
	is(t, "Append of one byte too many", d.Append("b", []byte("wxyz")), api.ErrRoom)
	hasRoom(t, d, 3)
	ok(t, d.Append("b", []byte("xyz")))
	hasRoom(t, d, 0)
	is(t, "Append to a full disk", d.Append("a", []byte("c")), api.ErrRoom)
	ok(t, d.Append("a", nil), d.Append("a", []byte{}))
	holds(t, d, "a", "ab")
	holds(t, d, "b", "xyz")
	ok(t, d.Cut("b", 1))
	hasRoom(t, d, 2)
	ok(t, d.Append("a", []byte("cd")))
	is(t, "Append to a full disk", d.Append("b", []byte("c")), api.ErrRoom)
	ok(t, d.Remove("a"))
	hasRoom(t, d, 4)
}

func TestNamesOfFiles(t *testing.T) { // P7.1
	long := strings.Repeat("n", 40)
	for name, want := range map[string]api.Errno{
		"": api.ErrArg, "a": api.OK, "\x00": api.OK, " ": api.OK, "\xff/\n": api.OK,
		long[:39]: api.OK, long: api.OK, long + "n": api.ErrArg, strings.Repeat("n", 1<<16): api.ErrArg,
	} {
		d := with(t, 10, "f=ab|c")
		is(t, "Create", d.Create(name), want)
		d.Remove(name)
		is(t, "Rename to it", d.Rename("f", name), want)
		if want == api.OK {
			hasNames(t, d, name)
			holds(t, d, name, "abc")
			ok(t, d.Append(name, []byte("d")), d.Sync(name), d.Cut(name, 0), d.Remove(name))
			hasNames(t, d)
		} else {
			hasNames(t, d, "f")
			holds(t, d, "f", "abc")
			is(t, "Rename of no file to it", d.Rename("none", name), api.ErrArg)
		}
	}
}

func TestNoSuchFile(t *testing.T) { // P7.1
	for _, name := range []string{"none", "", strings.Repeat("n", 41), "A", "a\x00"} {
		d := with(t, 3, "a=ab|c")
		is(t, "Append", d.Append(name, []byte("too long for the room")), api.ErrNone)
		is(t, "Append of nothing", d.Append(name, nil), api.ErrNone)
		is(t, "Sync", d.Sync(name), api.ErrNone)
		is(t, "Rename", d.Rename(name, "b"), api.ErrNone)
		is(t, "Rename onto a file", d.Rename(name, "a"), api.ErrNone)
		is(t, "Cut", d.Cut(name, 0), api.ErrNone)
		is(t, "Cut below 0", d.Cut(name, -1), api.ErrNone)
		is(t, "Remove", d.Remove(name), api.ErrNone)
		if b, code := d.Read(name); len(b) != 0 || code != api.ErrNone {
			t.Errorf("Read(%q) = %q, %d", name, b, code)
		}
		hasNames(t, d, "a")
		holds(t, d, "a", "abc")
		hasRoom(t, d, 0)
	}
	d := New(3)
	is(t, "Rename of a name that may not be to itself", d.Rename("", ""), api.ErrArg)
	is(t, "Rename of no file to itself", d.Rename("a", "a"), api.ErrNone)
}

func TestCreate(t *testing.T) { // P7.1
	d := with(t, 3, "a=ab|c")
	is(t, "Create of one that is there", d.Create("a"), api.ErrTwice)
	holds(t, d, "a", "abc")
	ok(t, d.Create("b"))
	holds(t, d, "b", "")
	ok(t, d.Remove("a"), d.Create("a"))
	holds(t, d, "a", "")
	hasRoom(t, d, 3)
	ok(t, d.Append("a", []byte("x"))) // nothing is safe of a file that is made anew
	d.Crash(nil)
	holds(t, d, "a", "")
}

func TestRename(t *testing.T) { // P7.1
	d := with(t, 9, "a=ab|cd", "b=xyz|")
	ok(t, d.Rename("a", "c"))
	hasNames(t, d, "b", "c")
	hasRoom(t, d, 2)
	is(t, "Sync of the old name", d.Sync("a"), api.ErrNone)
	ok(t, d.Rename("c", "c"))
	hasNames(t, d, "b", "c")
	hasRoom(t, d, 2)
	holds(t, d, "c", "abcd")
	ok(t, d.Rename("c", "b"))
	hasNames(t, d, "b")
	hasRoom(t, d, 5)
	holds(t, d, "b", "abcd")
	ok(t, d.Create("c"), d.Append("c", []byte("q")))
	holds(t, d, "b", "abcd")
	d.Crash([]int{1, 0})
	holds(t, d, "b", "abc")
	holds(t, d, "c", "")
	hasRoom(t, d, 6)

	d = with(t, 9, "a=|ab", "b=xyz|")
	ok(t, d.Rename("a", "b")) // what was safe was another file's
	d.Crash(nil)
	holds(t, d, "b", "")
}

func TestCut(t *testing.T) { // P7.1
	for _, x := range []struct {
		n         int
		code      api.Errno
		cut, left string // at once, and behind a crash that keeps nothing
	}{
		{math.MinInt, api.ErrArg, "abcde", "abc"},
		{-1, api.ErrArg, "abcde", "abc"},
		{0, api.OK, "", ""},
		{1, api.OK, "a", "a"},
		{3, api.OK, "abc", "abc"},
		{4, api.OK, "abcd", "abc"},
		{5, api.OK, "abcde", "abc"},
		{6, api.ErrArg, "abcde", "abc"},
		{math.MaxInt, api.ErrArg, "abcde", "abc"},
	} {
		d := with(t, 10, "f=abc|de")
		is(t, "Cut", d.Cut("f", x.n), x.code)
		holds(t, d, "f", x.cut)
		hasRoom(t, d, 10-len(x.cut))
		ok(t, d.Append("f", []byte("+")))
		holds(t, d, "f", x.cut+"+")
		d.Crash(nil)
		holds(t, d, "f", x.left)
		hasRoom(t, d, 10-len(x.left))
	}
	d := New(1)
	ok(t, d.Create("e"), d.Cut("e", 0))
	is(t, "Cut of an empty file", d.Cut("e", 1), api.ErrArg)
}

// sixSteps are the calls that are steps, each on a disk with the files a and b, all of which are done there.
func sixSteps() []func(d *FS) api.Errno {
	return []func(d *FS) api.Errno{
		func(d *FS) api.Errno { return d.Create("new") },
		func(d *FS) api.Errno { return d.Append("a", []byte("+")) },
		func(d *FS) api.Errno { return d.Sync("a") },
		func(d *FS) api.Errno { return d.Rename("a", "b") },
		func(d *FS) api.Errno { return d.Cut("a", 1) },
		func(d *FS) api.Errno { return d.Remove("a") },
	}
}

func TestPowerGoesAtEachStep(t *testing.T) { // P7.1
	for i, step := range sixSteps() {
		for wait := range 4 {
			d := with(t, 9, "a=ab|c", "b=xy|z")
			d.Fail(wait + 1)
			for range wait {
				ok(t, d.Append("b", nil))
			}
			if d.Down() {
				t.Errorf("step %d: down %d steps early", i, wait)
			}
			is(t, "a step without power", step(d), api.ErrDown)
			if !d.Down() {
				t.Errorf("step %d: not down", i)
			}
			hasNames(t, d, "a", "b")
			hasRoom(t, d, 3)
			d.Crash([]int{1, 1}) // both have a byte that isn't safe, still
			hasNames(t, d, "a", "b")
			holds(t, d, "a", "abc")
			holds(t, d, "b", "xyz")
			ok(t, step(d))
		}
	}
}

func TestSyncThatFails(t *testing.T) { // P7.1
	d := with(t, 9, "a=ab|c")
	d.Fail(1)
	is(t, "Sync", d.Sync("a"), api.ErrDown)
	d.Crash(nil)
	holds(t, d, "a", "ab")
}

func TestWhatIsNoStep(t *testing.T) { // P7.1
	d := with(t, 9, "a=ab|c")
	d.Fail(1)
	is(t, "Create", d.Create("a"), api.ErrTwice)
	is(t, "Create", d.Create(""), api.ErrArg)
	is(t, "Append", d.Append("b", nil), api.ErrNone)
	is(t, "Append", d.Append("a", []byte("1234567")), api.ErrRoom)
	is(t, "Sync", d.Sync("b"), api.ErrNone)
	is(t, "Rename", d.Rename("a", ""), api.ErrArg)
	is(t, "Rename", d.Rename("b", "a"), api.ErrNone)
	is(t, "Cut", d.Cut("a", 4), api.ErrArg)
	is(t, "Cut", d.Cut("b", 0), api.ErrNone)
	is(t, "Remove", d.Remove("b"), api.ErrNone)
	holds(t, d, "a", "abc")
	hasNames(t, d, "a")
	hasRoom(t, d, 6)
	if d.Down() {
		t.Error("down")
	}
	is(t, "the first step", d.Append("a", nil), api.ErrDown)
}

func TestFail(t *testing.T) { // P7.1
	for _, n := range []int{0, -1, math.MinInt} {
		d := with(t, 9, "a=ab|c")
		d.Fail(1)
		d.Fail(n) // set anew: not at all
		for range 20 {
			ok(t, d.Sync("a"))
		}
	}
	d := with(t, 9, "a=ab|c")
	d.Fail(3)
	ok(t, d.Sync("a"), d.Sync("a"))
	d.Fail(2) // counted from now on
	ok(t, d.Sync("a"))
	is(t, "the second step", d.Sync("a"), api.ErrDown)
	d.Fail(1)
	d.Crash(nil)
	ok(t, d.Sync("a"), d.Sync("a"), d.Sync("a"))
	d.Fail(math.MaxInt)
	ok(t, d.Sync("a"), d.Sync("a"))
	d.Fail(2)
	d.Crash(nil)
	ok(t, d.Sync("a"), d.Sync("a"), d.Sync("a"))
	if d.Down() {
		t.Error("down")
	}
}

func TestWithoutPower(t *testing.T) { // P7.1
	d := with(t, 9, "a=ab|c", "b=xy|z")
	d.Fail(1)
	is(t, "the step", d.Remove("a"), api.ErrDown)
	for _, name := range []string{"a", "none", "", strings.Repeat("n", 41)} {
		is(t, "Create", d.Create(name), api.ErrDown)
		is(t, "Append", d.Append(name, []byte("more than there is room for")), api.ErrDown)
		is(t, "Sync", d.Sync(name), api.ErrDown)
		is(t, "Rename", d.Rename(name, "b"), api.ErrDown)
		is(t, "Rename", d.Rename("a", name), api.ErrDown)
		is(t, "Cut", d.Cut(name, 0), api.ErrDown)
		is(t, "Cut", d.Cut(name, -1), api.ErrDown)
		is(t, "Remove", d.Remove(name), api.ErrDown)
		if b, code := d.Read(name); len(b) != 0 || code != api.ErrDown {
			t.Errorf("Read(%q) = %q, %d", name, b, code)
		}
	}
	d.Fail(0) // doesn't bring it back
	if !d.Down() {
		t.Error("not down")
	}
	hasNames(t, d, "a", "b")
	hasRoom(t, d, 3)
	d.Crash([]int{1})
	if d.Down() {
		t.Error("down")
	}
	holds(t, d, "a", "abc")
	holds(t, d, "b", "xy")
	hasRoom(t, d, 4)
}

func TestCrash(t *testing.T) { // P7.1
	for _, x := range []struct {
		keep []int
		want [4]string
	}{
		{nil, [4]string{"ab", "xy", "", ""}},
		{[]int{}, [4]string{"ab", "xy", "", ""}},
		{[]int{1}, [4]string{"abc", "xy", "", ""}},
		{[]int{0, 1}, [4]string{"ab", "xy", "p", ""}},
		{[]int{2, 3}, [4]string{"abcd", "xy", "pqr", ""}},
		{[]int{3, 4}, [4]string{"abcd", "xy", "pqr", ""}},
		{[]int{-1, 2}, [4]string{"ab", "xy", "pq", ""}},
		{[]int{math.MaxInt, math.MinInt}, [4]string{"abcd", "xy", "", ""}},
		{[]int{math.MinInt, math.MaxInt}, [4]string{"ab", "xy", "pqr", ""}},
		{[]int{1, 1, 1, 1, 1}, [4]string{"abc", "xy", "p", ""}},
	} {
		d := with(t, 20, "d=|", "c=|pqr", "a=ab|cd", "b=xy|")
		given := slices.Clone(x.keep)
		d.Crash(x.keep)
		if !slices.Equal(x.keep, given) {
			t.Errorf("keep has become %v", x.keep)
		}
		sum := 0
		for range 2 { // all that is left is safe: a second crash takes nothing
			sum = 0
			for i, name := range []string{"a", "b", "c", "d"} {
				holds(t, d, name, x.want[i])
				sum += len(x.want[i])
			}
			d.Crash(nil)
		}
		hasRoom(t, d, 20-sum)
		hasNames(t, d, "a", "b", "c", "d")
	}
	d := New(4)
	d.Crash([]int{1, 2, 3})
	hasNames(t, d)
	hasRoom(t, d, 4)
}

func TestNamesInOrder(t *testing.T) { // P7.1
	d := New(0)
	for _, name := range []string{"b", "a10", "\xff", "a2", "B", "a", "\x00", "é", "aa", " "} {
		ok(t, d.Create(name))
	}
	want := []string{"\x00", " ", "B", "a", "a10", "a2", "aa", "b", "é", "\xff"}
	hasNames(t, d, want...)
	got := d.Names()
	clear(got)
	hasNames(t, d, want...)
}

func TestMemory(t *testing.T) { // P7.4
	d := New(100)
	room := []byte("abcdefgh")
	ok(t, d.Create("f"), d.Append("f", room[:3]))
	ok(t, d.Append("f", room[3:5]))
	if string(room) != "abcdefgh" {
		t.Errorf("the argument has become %q", room)
	}
	clear(room)
	holds(t, d, "f", "abcde")

	first, _ := d.Read("f")
	second, _ := d.Read("f")
	for i := range first[:cap(first)] {
		first[:cap(first)][i] = '!'
	}
	holds(t, d, "f", "abcde")
	ok(t, d.Append("f", []byte("xyz")), d.Cut("f", 2), d.Append("f", []byte("...")))
	if string(second) != "abcde" || strings.Trim(string(first), "!") != "" {
		t.Errorf("Read's answers have become %q and %q", first, second)
	}
	holds(t, d, "f", "ab...")

	names := d.Names()
	ok(t, d.Create("a"), d.Rename("f", "z"))
	if !slices.Equal(names, []string{"f"}) {
		t.Errorf("Names' answer has become %q", names)
	}
	_ = append(d.Names()[:0], "x", "y")
	hasNames(t, d, "a", "z")

	keep := []int{1, 9}
	d.Crash(keep[:1])
	if !slices.Equal(keep, []int{1, 9}) {
		t.Errorf("keep has become %v", keep)
	}
}

func TestDisksDontKnowOfEachOther(t *testing.T) { // P2
	a, b := with(t, 9, "f=ab|c"), with(t, 9, "f=xy|z")
	a.Fail(1)
	ok(t, b.Append("f", []byte("w")))
	is(t, "Sync", a.Sync("f"), api.ErrDown)
	holds(t, b, "f", "xyzw")
	a.Crash(nil)
	holds(t, b, "f", "xyzw")
	holds(t, a, "f", "ab")
	hasRoom(t, b, 5)
}
