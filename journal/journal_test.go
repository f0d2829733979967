package journal

import (
	"bytes"
	"math"
	"slices"
	"strings"
	"testing"

	"colloquy/api"
	"colloquy/pack"
	"colloquy/vfs"
)

const file = "j"

// pair is a key and its data.
type pair struct {
	key  int64
	data string
}

func is(t *testing.T, what string, got, want api.Errno) {
	t.Helper()
	if got != want {
		t.Fatalf("%s = %d, not %d", what, got, want)
	}
}

func opened(t *testing.T, d *vfs.FS) *Journal {
	t.Helper()
	j, code := Open(d, file)
	if code != api.OK || j == nil {
		t.Fatalf("Open = %v, %d", j, code)
	}
	return j
}

func isRefused(t *testing.T, d *vfs.FS, name string, want api.Errno) {
	t.Helper()
	if j, code := Open(d, name); j != nil || code != want {
		t.Fatalf("Open(%.50q) = %v, %d, not %d", name, j, code, want)
	}
}

// record is a record's bytes.
func record(key int64, data string) []byte {
	return pack.Record(append(pack.Num(nil, key), data...))
}

func recordsOf(pairs ...pair) []byte {
	var b []byte
	for _, p := range pairs {
		b = append(b, record(p.key, p.data)...)
	}
	return b
}

// diskWith is a disk with a file of these bytes, of which the first ones are safe.
func diskWith(t *testing.T, b []byte, safe int) *vfs.FS {
	t.Helper()
	d := vfs.New(1 << 20)
	is(t, "Create", d.Create(file), api.OK)
	is(t, "Append", d.Append(file, b[:safe]), api.OK)
	is(t, "Sync", d.Sync(file), api.OK)
	is(t, "Append", d.Append(file, b[safe:]), api.OK)
	return d
}

// has: a journal has these keys and data and no others, and knows that its file has the bytes of their records.
func has(t *testing.T, j *Journal, pairs ...pair) {
	t.Helper()
	var keys []int64
	for _, p := range pairs {
		keys = append(keys, p.key)
		data, there := j.Get(p.key)
		if !there || string(data) != p.data || !j.Has(p.key) {
			t.Fatalf("Get(%d) = %.50q, %v, Has %v; it is %.50q", p.key, data, there, j.Has(p.key), p.data)
		}
	}
	slices.Sort(keys)
	if got := j.Keys(); !slices.Equal(got, keys) {
		t.Fatalf("Keys = %v, not %v", got, keys)
	}
	if got, want := j.Size(), len(recordsOf(pairs...)); got != want {
		t.Fatalf("Size = %d, not %d", got, want)
	}
	for _, key := range []int64{math.MinInt64, -1, 0, 1, 77, 1<<40 - 1, 1 << 40, 1<<40 + 1, math.MaxInt64} {
		if slices.Contains(keys, key) {
			continue
		}
		if data, there := j.Get(key); len(data) != 0 || there || j.Has(key) {
			t.Fatalf("Get(%d) = %.50q, %v, Has %v; it isn't there", key, data, there, j.Has(key))
		}
	}
}

// holds: the file has these bytes.
func holds(t *testing.T, d *vfs.FS, want []byte) {
	t.Helper()
	if b, code := d.Read(file); code != api.OK || !bytes.Equal(b, want) {
		t.Fatalf("the file is %.50v (%d bytes), %d, not %.50v (%d bytes)", b, len(b), code, want, len(want))
	}
}

// allSafe: a Crash that keeps nothing changes nothing.
func allSafe(t *testing.T, d *vfs.FS) {
	t.Helper()
	b, _ := d.Read(file)
	d.Crash(nil)
	holds(t, d, b)
}

// stepsOf is how many steps a call takes: the power goes at each of them.
func stepsOf(t *testing.T, disk func() *vfs.FS, call func(d *vfs.FS) api.Errno) int {
	t.Helper()
	for n := 1; n < 10; n++ {
		d := disk()
		d.Fail(n)
		if code := call(d); code == api.OK {
			return n - 1
		} else if code != api.ErrDown {
			t.Fatalf("step %d: %d", n, code)
		}
	}
	t.Fatal("the call takes too many steps")
	return 0
}

func open(d *vfs.FS) api.Errno {
	_, code := Open(d, file)
	return code
}

func TestExample(t *testing.T) { // P9.1, P9.2
	d := vfs.New(100)
	j := opened(t, d)
	is(t, "Put(3)", j.Put(3, []byte("abc")), api.OK)
	is(t, "Sync", j.Sync(), api.OK)
	is(t, "Put(1)", j.Put(1, []byte("d")), api.OK)
	d.Crash([]int{5})
	j = opened(t, d)
	has(t, j, pair{3, "abc"})
	is(t, "Put(3)", j.Put(3, nil), api.ErrTwice)
}

func TestNoFile(t *testing.T) { // P9.1
	d := vfs.New(100)
	has(t, opened(t, d))
	holds(t, d, nil)
	if got := d.Names(); !slices.Equal(got, []string{file}) {
		t.Errorf("Names = %q", got)
	}
	if got := stepsOf(t, func() *vfs.FS { return vfs.New(9) }, open); got != 2 {
		t.Errorf("Open of no file takes %d steps, not Create and Sync", got)
	}
	for _, name := range []string{"", strings.Repeat("n", 41)} {
		d := vfs.New(100)
		isRefused(t, d, name, api.ErrArg)
		if got := d.Names(); len(got) != 0 {
			t.Errorf("Names = %q", got)
		}
		d.Fail(1)
		is(t, "Create", d.Create("x"), api.ErrDown)
		isRefused(t, d, name, api.ErrDown)
	}
	long := strings.Repeat("n", 40)
	if j, code := Open(vfs.New(0), long); code != api.OK || j.Size() != 0 {
		t.Errorf("Open of a name of 40 bytes = %d", code)
	}
}

func TestOtherFiles(t *testing.T) { // P9.1
	d := vfs.New(100)
	is(t, "Create", d.Create("other"), api.OK)
	is(t, "Append", d.Append("other", []byte("no record")), api.OK)
	j := opened(t, d)
	is(t, "Put", j.Put(1, []byte("a")), api.OK)
	is(t, "Sync", j.Sync(), api.OK)
	k, code := Open(d, "k")
	is(t, "Open", code, api.OK)
	is(t, "Put", k.Put(1, []byte("b")), api.OK)
	has(t, opened(t, d), pair{1, "a"})
	has(t, k, pair{1, "b"})
	if b, _ := d.Read("other"); string(b) != "no record" {
		t.Errorf("the other file is %q", b)
	}
}

// right is records of a journal, with the edges of keys and data.
func right() []pair {
	return []pair{{3, "abc"}, {0, ""}, {1 << 40, "\x00\xff"}, {128, strings.Repeat("x", 300)}, {1, string(record(9, "inner"))}}
}

func TestRightRecords(t *testing.T) { // P9.1
	for n := range len(right()) + 1 {
		pairs := right()[:n]
		b := recordsOf(pairs...)
		for safe := range len(b) + 1 {
			d := diskWith(t, b, safe)
			has(t, opened(t, d), pairs...)
			holds(t, d, b)
			allSafe(t, d)
		}
		for _, safe := range []int{0, len(b)} {
			if got := stepsOf(t, func() *vfs.FS { return diskWith(t, b, safe) }, open); got != 1 {
				t.Errorf("Open of right records takes %d steps, not Sync alone", got)
			}
		}
	}
}

// wrong are bytes with which no record of a journal begins that has these records ahead.
func wrong() map[string][]byte {
	turned := record(7, "seven")
	turned[len(turned)-1]++
	eight := bytes.Repeat([]byte{128}, 8)
	return map[string][]byte{
		"a byte":                       {0},
		"seven bytes":                  make([]byte, 7),
		"text":                         []byte("some text that is no record at all"),
		"ones":                         bytes.Repeat([]byte{255}, 40),
		"a byte turned":                turned,
		"a part of a record":           record(7, "seven")[:12],
		"a payload of no bytes":        pack.Record(nil),
		"zeros":                        make([]byte, 40),
		"a key that is there":          record(3, "abc"),
		"a key that is there, of late": record(1, "other data"),
		"a key above 2^40":             record(1<<40+1, "a"),
		"a key of 2^62":                record(1<<62, "a"),
		"a key above 2^62":             pack.Record(append(slices.Clone(eight), 65)),
		"a key of too many groups":     pack.Record(append(slices.Clone(eight), 128, 1, 'a')),
		"a key longer than need be":    pack.Record([]byte{0x87, 0, 'a'}),
		"0 longer than need be":        pack.Record([]byte{0x80, 0}),
		"a key that is cut off":        pack.Record([]byte{0x87}),
		"a key that is cut off, more":  pack.Record(eight),
	}
}

func TestWrongRecords(t *testing.T) { // P9.1, P9.3
	for name, bad := range wrong() {
		for n := range len(right()) + 1 {
			pairs := right()[:n]
			there := func(p pair) bool {
				return bytes.Equal(bad, record(p.key, "abc")) || bytes.Equal(bad, record(p.key, "other data"))
			}
			if strings.Contains(name, "is there") && !slices.ContainsFunc(pairs, there) {
				continue
			}
			for _, behind := range [][]byte{nil, record(8, "right"), []byte("x")} {
				b := slices.Concat(recordsOf(pairs...), bad, behind)
				ahead := len(recordsOf(pairs...))
				for _, safe := range []int{0, ahead, len(b)} {
					d := diskWith(t, b, safe)
					has(t, opened(t, d), pairs...)
					holds(t, d, b[:ahead])
					has(t, opened(t, d), pairs...)
					allSafe(t, d)
					if got := stepsOf(t, func() *vfs.FS { return diskWith(t, b, safe) }, open); got != 2 {
						t.Fatalf("%s: Open takes %d steps, not Cut and Sync", name, got)
					}
				}
			}
		}
	}
}

func TestPowerGoesInOpen(t *testing.T) { // P9.1, P9.2
	d := vfs.New(100)
	d.Fail(1) // at Create
	isRefused(t, d, file, api.ErrDown)
	if !d.Down() || len(d.Names()) != 0 {
		t.Errorf("down %v, %q", d.Down(), d.Names())
	}
	isRefused(t, d, file, api.ErrDown)
	d.Crash(nil)
	d.Fail(2) // at Sync
	isRefused(t, d, file, api.ErrDown)
	d.Crash(nil)
	if got := d.Names(); !slices.Equal(got, []string{file}) {
		t.Errorf("Names = %q", got)
	}
	has(t, opened(t, d))

	records := recordsOf(right()...)
	b := append(slices.Clone(records), "garbage"...)
	d = diskWith(t, b, len(b))
	d.Fail(1) // at Cut
	isRefused(t, d, file, api.ErrDown)
	d.Crash(nil)
	holds(t, d, b)
	d.Fail(2) // at Sync
	isRefused(t, d, file, api.ErrDown)
	d.Crash(nil)
	holds(t, d, records)
	has(t, opened(t, d), right()...)

	d = diskWith(t, records, 0)
	d.Fail(1) // at Sync
	isRefused(t, d, file, api.ErrDown)
	d.Crash(nil)
	has(t, opened(t, d))
}

func TestPut(t *testing.T) { // P9.1
	d := vfs.New(1 << 20)
	j := opened(t, d)
	var done []pair
	for _, p := range append(right(), pair{2, ""}, pair{1<<40 - 1, "z"}, pair{127, "\x00"}) {
		is(t, "Put", j.Put(p.key, []byte(p.data)), api.OK)
		done = append(done, p)
		has(t, j, done...)
		holds(t, d, recordsOf(done...))
	}
	is(t, "Put of nil", j.Put(50, nil), api.OK)
	done = append(done, pair{50, ""})
	has(t, j, done...)
	before, _ := d.Read(file)
	for _, key := range []int64{math.MinInt64, -1, 1<<40 + 1, math.MaxInt64} {
		is(t, "Put of a wrong key", j.Put(key, []byte("a")), api.ErrArg)
	}
	for _, p := range done {
		is(t, "Put of a key that is there", j.Put(p.key, []byte(p.data)), api.ErrTwice)
		is(t, "Put of a key that is there", j.Put(p.key, nil), api.ErrTwice)
	}
	has(t, j, done...)
	holds(t, d, before)
	has(t, opened(t, d), done...)
}

func TestWhichErrorIsFirst(t *testing.T) { // P9.1, P1
	small := make([]byte, 10)
	long := make([]byte, 1<<29+1) // never touched, so that it takes no memory
	d := vfs.New(9)
	j := opened(t, d)
	is(t, "Put", j.Put(3, nil), api.OK) // the disk is full now
	check := func(append api.Errno) {
		t.Helper()
		for _, key := range []int64{-1, 1<<40 + 1} {
			is(t, "Put of a wrong key", j.Put(key, nil), api.ErrArg)
			is(t, "Put of a wrong key with data", j.Put(key, small), api.ErrArg)
			is(t, "Put of a wrong key with too many data", j.Put(key, long), api.ErrArg)
		}
		is(t, "Put of too many data", j.Put(4, long), api.ErrLong)
		is(t, "Put of too many data for a key that is there", j.Put(3, long), api.ErrLong)
		is(t, "Put of a key that is there", j.Put(3, nil), api.ErrTwice)
		is(t, "Put of a key that is there, with data", j.Put(3, small), api.ErrTwice)
		is(t, "Put", j.Put(4, nil), append)
		is(t, "Put with data", j.Put(4, small), append)
		has(t, j, pair{3, ""})
	}
	check(api.ErrRoom)
	d.Fail(1)
	is(t, "Sync", j.Sync(), api.ErrDown)
	check(api.ErrDown)
	is(t, "Sync", j.Sync(), api.ErrDown)
	d.Crash(nil)
	is(t, "Remove", d.Remove(file), api.OK)
	check(api.ErrNone)
	is(t, "Sync", j.Sync(), api.ErrNone)
}

// TestMostData holds payloads of 2^29 bytes of data and of one more against each other: only what has to be asked is asked of so many.
func TestMostData(t *testing.T) { // P9.1
	for _, head := range [][]byte{{0}, pack.Num(nil, 1<<40)} {
		payload := make([]byte, len(head)+1<<29+1)
		copy(payload, head)
		if _, data, ok := parts(payload[:len(payload)-1]); len(data) != 1<<29 || !ok {
			t.Errorf("of 2^29 bytes: %d, %v", len(data), ok)
		}
		if key, data, ok := parts(payload); key != 0 || data != nil || ok {
			t.Errorf("of 2^29 + 1 bytes: %d, %d bytes, %v", key, len(data), ok)
		}
	}
	if testing.Short() {
		t.Skip("takes some GiB")
	}
	d := vfs.New(1<<29 + 8)
	j := opened(t, d)
	is(t, "Put of 2^29 bytes, of which one is too many for the disk", j.Put(0, make([]byte, 1<<29)), api.ErrRoom)
	has(t, j)
}

func TestLackOfRoom(t *testing.T) { // P9.1
	pairs := right()
	whole := len(recordsOf(pairs...))
	for room := range whole + 2 {
		d := vfs.New(room)
		j := opened(t, d)
		var done []pair
		for _, p := range pairs {
			want := api.OK
			if len(recordsOf(append(slices.Clip(done), p)...)) > room {
				want = api.ErrRoom
			}
			is(t, "Put", j.Put(p.key, []byte(p.data)), want)
			if want == api.OK {
				done = append(done, p)
			}
			has(t, j, done...)
			holds(t, d, recordsOf(done...))
		}
		is(t, "Sync", j.Sync(), api.OK)
		has(t, opened(t, d), done...)
		has(t, opened(t, d), done...) // no room is needed for it
	}
}

func TestPowerGoesInPutAndSync(t *testing.T) { // P9.1, P9.2
	pairs := right()
	for n := 1; n <= 2*len(pairs)+1; n++ {
		for _, keep := range []int{0, 3, 1000} {
			d := vfs.New(1 << 20)
			j := opened(t, d)
			d.Fail(n)
			var done, synced []pair
			for i, p := range pairs {
				want := api.OK
				if 2*i+1 >= n {
					want = api.ErrDown
				}
				is(t, "Put", j.Put(p.key, []byte(p.data)), want)
				if want == api.OK {
					done = append(done, p)
				}
				has(t, j, done...)
				if 2*i+2 >= n {
					want = api.ErrDown
				}
				is(t, "Sync", j.Sync(), want)
				if want == api.OK {
					synced = slices.Clone(done)
				}
				has(t, j, done...)
			}
			d.Crash([]int{keep})
			want := synced
			if keep == 1000 {
				want = done
			}
			has(t, opened(t, d), want...)
			holds(t, d, recordsOf(want...))
		}
	}
}

// TestCrashKeepsAnyBytes has a Crash that keeps each number of bytes, behind each number of records that were synced.
func TestCrashKeepsAnyBytes(t *testing.T) { // P9.2, P9.3
	pairs := right()
	for synced := range len(pairs) + 1 {
		safe := len(recordsOf(pairs[:synced]...))
		for keep := range len(recordsOf(pairs...)) - safe + 2 {
			d := vfs.New(1 << 20)
			j := opened(t, d)
			for i, p := range pairs {
				if i == synced {
					is(t, "Sync", j.Sync(), api.OK)
				}
				is(t, "Put", j.Put(p.key, []byte(p.data)), api.OK)
			}
			if synced == len(pairs) {
				is(t, "Sync", j.Sync(), api.OK)
			}
			d.Crash([]int{keep})
			first := synced
			for first < len(pairs) && len(recordsOf(pairs[:first+1]...)) <= safe+keep {
				first++
			}
			j = opened(t, d)
			has(t, j, pairs[:first]...)
			holds(t, d, recordsOf(pairs[:first]...))
			d.Crash(nil)
			j = opened(t, d)
			has(t, j, pairs[:first]...)
			is(t, "Put of a new one", j.Put(77, []byte("new")), api.OK)
			has(t, opened(t, d), append(slices.Clip(pairs[:first]), pair{77, "new"})...)
		}
	}
}

// TestOwnMemory writes over what was handed in and over what was answered.
func TestOwnMemory(t *testing.T) { // P9.4
	d := vfs.New(1 << 20)
	j := opened(t, d)
	whole := []byte("data and more behind it")
	ahead := slices.Clone(whole)
	data := whole[:4]
	is(t, "Put", j.Put(3, data), api.OK)
	is(t, "Put", j.Put(1, data[4:]), api.OK)
	if !bytes.Equal(whole, ahead) {
		t.Errorf("Put has changed what it was handed: %q", whole)
	}
	clear(whole)
	for range 2 {
		pairs := []pair{{3, "data"}, {1, ""}}
		has(t, j, pairs...)
		holds(t, d, recordsOf(pairs...))
		for _, key := range []int64{3, 1} {
			got, _ := j.Get(key)
			clear(got[:cap(got)])
			has(t, j, pairs...)
			holds(t, d, recordsOf(pairs...))
		}
		keys := j.Keys()
		clear(keys[:cap(keys)])
		has(t, j, pairs...)
		j = opened(t, d)
	}
	one, _ := j.Get(3)
	two, _ := j.Get(3)
	clear(one)
	if string(two) != "data" {
		t.Errorf("two answers share memory: %q", two)
	}
}
