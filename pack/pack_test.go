package pack

import (
	"bytes"
	"hash/crc32"
	"math"
	"math/big"
	"math/rand"
	"slices"
	"strings"
	"testing"
)

// groups are a number's bytes as the document tells them, by division.
func groups(n int64) []byte {
	rest := big.NewInt(min(max(n, 0), 1<<62))
	var b []byte
	for {
		low := new(big.Int)
		rest.DivMod(rest, big.NewInt(128), low)
		if rest.Sign() == 0 {
			return append(b, byte(low.Int64()))
		}
		b = append(b, byte(low.Int64())+128)
	}
}

// bitSum is the sum as the document tells it, bit by bit.
func bitSum(b []byte) uint32 {
	register := uint32(math.MaxUint32)
	for _, x := range b {
		for bit := range 8 {
			fallen := register & 1
			register >>= 1
			if fallen != uint32(x)>>bit&1 {
				register ^= 0xEDB88320
			}
		}
	}
	return register ^ math.MaxUint32
}

// edgeNums are numbers at which something changes, and their neighbours.
func edgeNums() []int64 {
	ns := []int64{math.MinInt64, math.MinInt64 + 1, -128, -1, 0, 1, 300, math.MaxInt64 - 1, math.MaxInt64}
	for bits := range 63 {
		ns = append(ns, int64(1)<<bits-1, int64(1)<<bits, int64(1)<<bits+1)
	}
	return ns
}

func someBytes(r *rand.Rand, most int) []byte {
	b := make([]byte, r.Intn(most+1))
	r.Read(b)
	return b
}

func TestExamples(t *testing.T) { // P8.1
	if got := Num(nil, 300); !bytes.Equal(got, []byte{172, 2}) {
		t.Errorf("Num = %v", got)
	}
	if got := Text(nil, "ab"); !bytes.Equal(got, []byte{2, 97, 98}) {
		t.Errorf("Text = %v", got)
	}
	if got := Sum([]byte("123456789")); got != 0xcbf43926 {
		t.Errorf("Sum = %x", got)
	}
	if got := Record([]byte("a")); !bytes.Equal(got, []byte{1, 0, 0, 0, 67, 190, 183, 232, 97}) {
		t.Errorf("Record = %v", got)
	}
}

func TestNum(t *testing.T) { // P8.1
	for n, want := range map[int64][]byte{
		math.MinInt64: {0}, -1: {0}, 0: {0}, 1: {1}, 127: {127}, 128: {128, 1}, 16383: {255, 127}, 16384: {128, 128, 1},
		1<<62 - 1:     {255, 255, 255, 255, 255, 255, 255, 255, 63},
		1 << 62:       {128, 128, 128, 128, 128, 128, 128, 128, 64},
		1<<62 + 1:     {128, 128, 128, 128, 128, 128, 128, 128, 64},
		math.MaxInt64: {128, 128, 128, 128, 128, 128, 128, 128, 64},
	} {
		if got := Num(nil, n); !bytes.Equal(got, want) {
			t.Errorf("Num(nil, %d) = %v, not %v", n, got, want)
		}
	}
	r := rand.New(rand.NewSource(1))
	ns := edgeNums()
	for range 20000 {
		ns = append(ns, int64(r.Uint64())>>r.Intn(64))
	}
	for _, n := range ns {
		b := someBytes(r, 5)
		if got, want := Num(b, n), append(slices.Clip(b), groups(n)...); !bytes.Equal(got, want) {
			t.Fatalf("Num(%v, %d) = %v, not %v", b, n, got, want)
		}
	}
}

func TestText(t *testing.T) { // P8.1
	r := rand.New(rand.NewSource(2))
	for _, size := range []int{0, 1, 2, 127, 128, 129, 16383, 16384, 1 << 20} {
		s := make([]byte, size)
		r.Read(s)
		for _, b := range [][]byte{nil, {}, {7}, {128, 128}} {
			want := slices.Concat(b, groups(int64(size)), s)
			if got := Text(b, string(s)); !bytes.Equal(got, want) {
				t.Errorf("Text(%v, %d bytes): %.20v, not %.20v", b, size, got, want)
			}
		}
	}
}

func TestSum(t *testing.T) { // P8.1
	for text, want := range map[string]uint32{"": 0, "a": 0xe8b7be43, "123456789": 0xcbf43926, "\x00": 0xd202ef8d, "\xff\xff\xff\xff": 0xffffffff} {
		if got := Sum([]byte(text)); got != want {
			t.Errorf("Sum(%q) = %x, not %x", text, got, want)
		}
	}
	if got := Sum(nil); got != 0 {
		t.Errorf("Sum(nil) = %x", got)
	}
	for x := range 256 {
		for y := range 256 {
			b := []byte{byte(x), byte(y)}
			if Sum(b) != bitSum(b) || Sum(b[:1]) != bitSum(b[:1]) {
				t.Fatalf("Sum(%v) = %x, not %x", b, Sum(b), bitSum(b))
			}
		}
	}
	r := rand.New(rand.NewSource(3))
	for range 2000 {
		b := someBytes(r, 300)
		if got, want := Sum(b), bitSum(b); got != want || got != crc32.ChecksumIEEE(b) {
			t.Fatalf("Sum(%v) = %x, not %x", b, got, want)
		}
	}
}

func isSplit(t *testing.T, b, want []byte, size int) {
	t.Helper()
	payload, n, ok := Split(b)
	if !ok || n != size || !bytes.Equal(payload, want) {
		t.Fatalf("Split of %d bytes (%.30v) = %.30v, %d, %v, not %.30v, %d", len(b), b, payload, n, ok, want, size)
	}
}

func isNoSplit(t *testing.T, b []byte) {
	t.Helper()
	if payload, n, ok := Split(b); ok || n != 0 || len(payload) != 0 {
		t.Fatalf("Split of %d bytes (%.30v) = %.30v, %d, %v", len(b), b, payload, n, ok)
	}
}

func TestRecordAndSplit(t *testing.T) { // P8.1, P8.2, P8.3
	isNoSplit(t, nil)
	if got := Record(nil); !bytes.Equal(got, make([]byte, 8)) || !bytes.Equal(Record([]byte{}), got) {
		t.Errorf("Record(nil) = %v", got)
	}
	r := rand.New(rand.NewSource(4))
	for _, size := range []int{0, 1, 2, 3, 8, 9, 127, 128, 255, 256, 257, 1000, 65535, 65536, 70000} {
		payload := make([]byte, size)
		r.Read(payload)
		record := Record(payload)
		sum := bitSum(payload)
		head := []byte{byte(size % 256), byte(size / 256 % 256), byte(size / 65536), 0, byte(sum), byte(sum >> 8), byte(sum >> 16), byte(sum >> 24)}
		if !bytes.Equal(record, append(head, payload...)) {
			t.Fatalf("Record of %d bytes begins with %v, not %v", size, record[:8], head)
		}
		isSplit(t, record, payload, size+8)
		for _, behind := range [][]byte{{0}, {255}, record, make([]byte, 8), someBytes(r, 50)} {
			isSplit(t, append(slices.Clip(record), behind...), payload, size+8)
		}
		for end := range min(len(record), 300) {
			isNoSplit(t, record[:end])
			isNoSplit(t, record[:len(record)-1-end])
		}
	}
}

func TestTurnedBytes(t *testing.T) { // P8.3
	r := rand.New(rand.NewSource(5))
	for _, size := range []int{0, 1, 2, 5, 20} {
		payload := make([]byte, size)
		r.Read(payload)
		record := Record(payload)
		for at := range record {
			for turn := 1; turn < 256; turn++ {
				b := append(slices.Clone(record), 0, 0, 0, 0)
				b[at] ^= byte(turn)
				got, n, ok := Split(b)
				if ok && bytes.Equal(got, payload) || at >= 4 && ok || !ok && (n != 0 || len(got) != 0) {
					t.Fatalf("Split(%v) = %v, %d, %v; the payload was %v", b, got, n, ok, payload)
				}
			}
		}
	}
	// A shorter length whose sum is right too is another record.
	b := slices.Concat([]byte{3, 0, 0, 0}, []byte{0, 0, 0, 0}, []byte("abc"))
	isNoSplit(t, b)
	b[0] = 0
	isSplit(t, b, nil, 8)
}

func TestSplitAnyBytes(t *testing.T) { // P8.1, P8.2
	r := rand.New(rand.NewSource(6))
	for range 50000 {
		b := someBytes(r, 30)
		if len(b) >= 8 {
			b[0], b[1], b[2], b[3] = byte(r.Intn(24)), 0, 0, byte(r.Intn(20)/19)
			if end := 8 + int(b[0]); end <= len(b) && r.Intn(2) == 0 {
				sum := bitSum(b[8:end])
				b[4], b[5], b[6], b[7] = byte(sum), byte(sum>>8), byte(sum>>16), byte(sum>>24)
			}
		}
		right := false
		for end := 8; end <= len(b); end++ {
			if bytes.Equal(b[:end], Record(b[8:end])) {
				right = true
				isSplit(t, b, b[8:end], end)
			}
		}
		if !right {
			isNoSplit(t, b)
		}
	}
	for _, high := range []byte{0x40, 0x7f, 0x80, 0xff} { // lengths that b hasn't
		isNoSplit(t, []byte{0, 0, 0, high, 0, 0, 0, 0})
		isNoSplit(t, []byte{255, 255, 255, high, 0, 0, 0, 0, 9})
		isNoSplit(t, append([]byte{0, 0, 0, high}, make([]byte, 4096)...))
	}
}

// TestLargestPayload holds records of 2^30 bytes and of one more against each other, both with the right sum.
func TestLargestPayload(t *testing.T) { // P8.1
	if testing.Short() {
		t.Skip("takes some GiB")
	}
	const most = 1 << 30
	b := make([]byte, 8+most+1)
	putHead := func(size int) []byte {
		sum := crc32.ChecksumIEEE(b[8 : 8+size])
		copy(b, []byte{byte(size), byte(size >> 8), byte(size >> 16), byte(size >> 24), byte(sum), byte(sum >> 8), byte(sum >> 16), byte(sum >> 24)})
		return b[:8+size]
	}
	isNoSplit(t, putHead(most+1))
	payload, n, ok := Split(putHead(most))
	if len(payload) != most || n != most+8 || !ok {
		t.Errorf("of 2^30 bytes: %d, %d, %v", len(payload), n, ok)
	}
}

// TestOwnMemory writes over what was handed in and over what was answered.
func TestOwnMemory(t *testing.T) { // P8.4
	whole := []byte("0123456789abcdefghijklmnopqrstuvwxyz")
	turn := func(b []byte) {
		for i := range b {
			b[i] ^= 255
		}
	}
	record := slices.Concat(Record([]byte("payload")), whole)
	calls := map[string]struct {
		b    []byte
		call func(b []byte) []byte
	}{
		"Num":    {whole[:5], func(b []byte) []byte { return Num(b, 1<<40) }},
		"Text":   {whole[:5], func(b []byte) []byte { return Text(b, "text") }},
		"Record": {whole[:5], func(b []byte) []byte { return Record(b) }},
		"Split":  {record[:15], func(b []byte) []byte { payload, _, _ := Split(b); return payload }},
		"Read": {[]byte("\x04text")[:5], func(b []byte) []byte {
			var s string
			Read(b, func(r *Reader) { s = r.Text(9) })
			return []byte(s)
		}},
	}
	for name, x := range calls {
		room := x.b[:cap(x.b)]
		ahead := slices.Clone(room)
		first := x.call(x.b)
		told := slices.Clone(first)
		if !bytes.Equal(room, ahead) {
			t.Errorf("%s has changed what it was handed", name)
		}
		turn(room)
		if !bytes.Equal(first, told) {
			t.Errorf("%s has kept what it was handed", name)
		}
		turn(room)
		turn(first[:cap(first)])
		if !bytes.Equal(room, ahead) {
			t.Errorf("%s has answered what it was handed", name)
		}
		if second := x.call(x.b); !bytes.Equal(second, told) {
			t.Errorf("%s a second time = %v, not %v", name, second, told)
		}
	}
	b := Num(nil, 5)
	if one, two := Text(b, "one"), Text(b, "two"); string(one) != "\x05\x03one" || string(two) != "\x05\x03two" {
		t.Errorf("two texts behind one number: %q, %q", one, two)
	}
	text := []byte("\x03abc")
	var s string
	Read(text, func(r *Reader) { s = r.Text(3) })
	turn(text)
	if s != strings.Clone("abc") {
		t.Errorf("Text is now %q", s)
	}
}
