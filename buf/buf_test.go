package buf

import (
	"bytes"
	"math"
	"strings"
	"testing"
)

// put: of the bytes so many go.
func put(t *testing.T, b *Buffer, text string, gone int) {
	t.Helper()
	if got := b.Put([]byte(text)); got != gone {
		t.Fatalf("Put(%.50q) = %d, not %d", text, got, gone)
	}
}

// take: the first n bytes are these.
func take(t *testing.T, b *Buffer, n int, want string) {
	t.Helper()
	if got := b.Take(n); string(got) != want {
		t.Fatalf("Take(%d) = %.50q, not %.50q", n, got, want)
	}
}

// has: a buffer has these bytes, is full or isn't, and has lost so many.
func has(t *testing.T, b *Buffer, text string, full bool, gone int64) {
	t.Helper()
	if got := b.Bytes(); string(got) != text || b.Full() != full || b.Gone() != gone {
		t.Fatalf("%.50q (%d bytes), full %v, gone %d, not %.50q (%d bytes), %v, %d", got, len(got), b.Full(), b.Gone(), text, len(text), full, gone)
	}
}

func TestExample(t *testing.T) { // P11.1
	b := New(3)
	has(t, b, "", false, 0)
	put(t, b, "ab", 0)
	has(t, b, "ab", false, 0)
	put(t, b, "cd", 1)
	has(t, b, "bcd", true, 1)
	take(t, b, 2, "bc")
	has(t, b, "d", false, 1)
	put(t, b, "wxyz", 2)
	has(t, b, "xyz", true, 3)
}

func TestMost(t *testing.T) { // P11.1
	text := strings.Repeat("0123456", 1000)
	for most, want := range map[int]int{
		math.MinInt: 1, math.MinInt32: 1, -2000: 1, -1: 1, 0: 1, 1: 1, 2: 2, 3: 3, 100: 100, 1999: 1999, 2000: 2000,
		2001: 2000, 65536: 2000, 1 << 32: 2000, 1<<32 + 1: 2000, math.MaxInt: 2000,
	} {
		b := New(most)
		has(t, b, "", false, 0)
		put(t, b, text[:want-1], 0)
		has(t, b, text[:want-1], false, 0)
		put(t, b, text[want-1:want], 0)
		has(t, b, text[:want], true, 0)
		put(t, b, text[want:want+1], 1)
		has(t, b, text[1:want+1], true, 1)
		b = New(most)
		put(t, b, text, len(text)-want)
		has(t, b, text[len(text)-want:], true, int64(len(text)-want))
	}
}

func TestPut(t *testing.T) { // P11.1
	for _, x := range []struct {
		there, text, left string
		gone              int
	}{
		{"", "", "", 0},
		{"", "a", "a", 0},
		{"", "abcde", "abcde", 0},
		{"", "abcdef", "bcdef", 1},
		{"ab", "", "ab", 0},
		{"ab", "c", "abc", 0},
		{"ab", "cde", "abcde", 0},    // as many as there is place for
		{"ab", "cdef", "bcdef", 1},   // one more
		{"ab", "cdefg", "cdefg", 2},  // as many as may be: all that was there goes
		{"ab", "cdefgh", "defgh", 3}, // more than the whole buffer
		{"ab", "cdefghijklmn", "jklmn", 9},
		{"abcde", "", "abcde", 0},
		{"abcde", "f", "bcdef", 1},
		{"abcde", "fghi", "efghi", 4},
		{"abcde", "fghij", "fghij", 5},
		{"abcde", "fghijk", "ghijk", 6},
	} {
		b := New(5)
		put(t, b, x.there, 0)
		put(t, b, x.text, x.gone)
		has(t, b, x.left, len(x.left) == 5, int64(x.gone))
		take(t, b, 99, x.left)
		has(t, b, "", false, int64(x.gone))
	}
}

func TestPutOfNothing(t *testing.T) { // P11.1
	b := New(2)
	for _, there := range []string{"", "a", "b"} {
		b.Put([]byte(there))
		full, gone, text := b.Full(), b.Gone(), string(b.Bytes())
		if b.Put(nil) != 0 || b.Put([]byte{}) != 0 {
			t.Error("of no bytes some have gone")
		}
		has(t, b, text, full, gone)
	}
	has(t, b, "ab", true, 0)
}

func TestTake(t *testing.T) { // P11.1
	for n, want := range map[int]string{
		math.MinInt: "", -1 << 32: "", -1: "", 0: "", 1: "b", 2: "bc", 3: "bcd", 4: "bcde", 5: "bcde", 2001: "bcde",
		1 << 32: "bcde", 1<<32 + 1: "bcde", math.MaxInt: "bcde",
	} {
		b := New(4)
		put(t, b, "abcde", 1)
		take(t, b, n, want)
		left := "bcde"[len(want):]
		has(t, b, left, want == "", 1) // what is taken hasn't gone
		take(t, b, 0, "")
		take(t, b, -1, "")
		put(t, b, "xy", max(len(left)+2-4, 0))
		has(t, b, (left + "xy")[max(len(left)+2-4, 0):], len(left) >= 2, 1+int64(max(len(left)+2-4, 0)))
	}
	b := New(4)
	for _, n := range []int{-1, 0, 1, 9} {
		take(t, b, n, "")
		has(t, b, "", false, 0)
	}
}

func TestFullOfOne(t *testing.T) { // P11.1
	b := New(1)
	for i := range 300 {
		put(t, b, string([]byte{byte(i)}), min(i, 1))
		has(t, b, string([]byte{byte(i)}), true, int64(max(i, 0)))
	}
	take(t, b, 1, string([]byte{299 - 256}))
	has(t, b, "", false, 299)
	put(t, b, "xyz", 2)
	has(t, b, "z", true, 301)
}

func TestLongPut(t *testing.T) { // P11.1
	b := New(2000)
	put(t, b, "first", 0)
	text := strings.Repeat("0123456789", 1<<20)
	put(t, b, text, len(text)-1995)
	has(t, b, text[len(text)-2000:], true, int64(len(text)-1995))
}

// TestManyBytesGo: as many bytes together as a program may be given.
func TestManyBytesGo(t *testing.T) { // P11.1
	b := New(2)
	long := make([]byte, 1<<30) // never touched, so that it takes no memory
	put(t, b, "a", 0)
	if got := b.Put(long); got != 1<<30-1 {
		t.Errorf("Put of 2^30 bytes = %d", got)
	}
	has(t, b, "\x00\x00", true, 1<<30-1)
	if got := b.Put(long[2:]); got != 1<<30-2 {
		t.Errorf("Put of 2^30 - 2 bytes = %d", got)
	}
	has(t, b, "\x00\x00", true, 1<<31-3)
}

func TestTwoBuffers(t *testing.T) { // P2
	one, two := New(3), New(3)
	put(t, one, "abcd", 1)
	has(t, two, "", false, 0)
	put(t, two, "x", 0)
	take(t, one, 1, "b")
	has(t, one, "cd", false, 1)
	has(t, two, "x", false, 0)
}

// over writes over an answer, and over its spare room.
func over(b []byte) {
	b = b[:cap(b)]
	for i := range b {
		b[i] = '#'
	}
}

// TestPutBytesAreNotKept writes over what Put was handed.
func TestPutBytesAreNotKept(t *testing.T) { // P11.3
	for most := 1; most <= 9; most++ {
		for n := range 8 {
			for m := range 8 - n {
				whole := []byte("abcdefgh")
				b := New(most)
				b.Put(whole[:n])
				b.Put(whole[n : n+m])
				if string(whole) != "abcdefgh" {
					t.Fatalf("Put has changed what it was handed: %q", whole)
				}
				over(whole)
				gone := max(n+m-most, 0)
				has(t, b, "abcdefgh"[gone:n+m], n+m >= most, int64(gone))
				b.Put([]byte("xy"))
				b.Take(1)
				if string(whole) != "########" {
					t.Fatalf("what was handed in is changed by a later call: %q", whole)
				}
			}
		}
	}
}

// TestAnswersAreNew writes over what Bytes and Take answer.
func TestAnswersAreNew(t *testing.T) { // P11.3
	for n := range 7 {
		b := New(6)
		put(t, b, "abcdefg", 1)
		over(b.Bytes())
		has(t, b, "bcdefg", true, 1)
		one, two := b.Bytes(), b.Bytes()
		over(one)
		if string(two) != "bcdefg" {
			t.Fatalf("two answers share memory: %q", two)
		}
		taken := b.Take(n)
		over(taken)
		has(t, b, "bcdefg"[n:], n == 0, 1)
		over(b.Bytes())
		put(t, b, "xyz", max(3-n, 0))
		for i, c := range taken[:cap(taken)] {
			if c != '#' {
				t.Fatalf("byte %d of what was taken is changed by a later Put", i)
			}
		}
		over(b.Take(0))
		_ = append(b.Bytes()[:1], "!!!!!!"...)
		_ = append(b.Take(1), "!!!!!!"...)
		left := ("bcdefg"[n:] + "xyz")[max(3-n, 0):]
		has(t, b, left[1:], false, 1+int64(max(3-n, 0)))
	}
}

// TestAnswersStay: what was answered doesn't change by later calls.
func TestAnswersStay(t *testing.T) { // P11.3
	b := New(4)
	var got [][]byte
	var want []string
	for i := range 50 {
		b.Put(bytes.Repeat([]byte{byte('a' + i%26)}, i%7))
		there := b.Bytes()
		taken := b.Take(i % 3)
		got = append(got, there, taken)
		want = append(want, string(there), string(taken))
	}
	for i := range got {
		if string(got[i]) != want[i] {
			t.Errorf("answer %d was %q and is %q", i, want[i], got[i])
		}
	}
}

func TestBytesTakesNothing(t *testing.T) { // P11.1
	b := New(3)
	put(t, b, "abcd", 1)
	for range 3 {
		has(t, b, "bcd", true, 1)
	}
	put(t, b, string(b.Bytes()), 3)
	has(t, b, "bcd", true, 4)
}
