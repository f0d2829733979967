package sound

import (
	"math"
	"math/rand"
	"reflect"
	"regexp"
	"slices"
	"strings"
	"testing"

	"colloquy/api"
	"colloquy/cond"
	"colloquy/pat"
)

// told is a fault, and where in the document's order it stands.
type told struct {
	order []int
	f     Fault
}

// plain is all that is wrong with a suite by the document's rules, each asked of each thing.
type plain struct{ all []told }

func (p *plain) add(is bool, f Fault, order ...int) {
	if is {
		p.all = append(p.all, told{slices.Clone(order), f})
	}
}

// first is the fault that stands first.
func (p *plain) first() Fault {
	if len(p.all) == 0 {
		return Fault{0, -1, -1, -1}
	}
	return slices.MinFunc(p.all, func(a, b told) int { return slices.Compare(a.order, b.order) }).f
}

func noName(s string) bool { return len(s) == 0 || len(s) > 80 }

var aWord = regexp.MustCompile(`^[a-zA-Z][a-zA-Z0-9_-]{0,39}$`)

func noWord(s string) bool { return !aWord.MatchString(s) || strings.HasSuffix(s, "\n") }

// twice tells whether what stands at a place is among what stands ahead.
func twice(texts []string, at int) bool { return slices.Index(texts, texts[at]) < at }

// faults are all faults of a suite: 1 are its own, 2 those of boards, 3 those of groups.
func faults(s api.Suite) *plain {
	p := &plain{}
	p.add(noName(s.Name), Fault{160, -1, -1, -1}, 1, 1)
	p.add(len(s.Groups) > 100 || len(s.Boards) == 0 || len(s.Boards) > 20, Fault{163, -1, -1, -1}, 1, 2)
	var boards, groups []string
	for i, b := range s.Boards {
		boards = append(boards, b.Name)
		var props []string
		for j, x := range b.Props {
			props = append(props, x.Name)
			p.add(noWord(x.Name), Fault{160, -1, -1, -1}, 2, i, 1)
			p.add(twice(props, j), Fault{161, -1, -1, -1}, 2, i, 2)
		}
		p.add(noName(b.Name), Fault{160, -1, -1, -1}, 2, i, 1)
		p.add(twice(boards, i), Fault{161, -1, -1, -1}, 2, i, 2)
	}
	for i, g := range s.Groups {
		groups = append(groups, g.Name)
		p.add(noName(g.Name), Fault{160, i, -1, -1}, 3, i, -3)
		p.add(twice(groups, i), Fault{161, i, -1, -1}, 3, i, -2)
		p.add(len(g.Tests) > 50, Fault{163, i, -1, -1}, 3, i, -1)
		var tests []string
		for j, t := range g.Tests {
			tests = append(tests, t.Name)
			p.add(noName(t.Name), Fault{160, i, j, -1}, 3, i, j, -4)
			p.add(twice(tests, j), Fault{161, i, j, -1}, 3, i, j, -3)
			p.add(t.Budget < 1 || t.Budget > 1000000 || t.Kind < 0 || t.Kind > 2 || len(t.Xfail) > 5, Fault{163, i, j, -1}, 3, i, j, -2)
			for _, c := range t.Xfail {
				p.add(!cond.Right(c) || deepOf(c) > 8, Fault{160, i, j, -1}, 3, i, j, -1)
			}
			if t.Kind == 0 {
				for n, x := range standing(t.Steps) {
					p.step(x, Fault{163, i, j, n}, 3, i, j, n)
				}
			}
		}
	}
	return p
}

// step adds a step's faults: 1 are its own, 2 those of its clauses.
func (p *plain) step(x stood, f Fault, order ...int) {
	own := append(slices.Clone(order), 1)
	s := x.s
	no := func(from, to int) bool { return s.N < from || s.N > to }
	p.add(f.Step >= 200 || x.deep > 6, f, own...)
	switch s.Kind {
	case 1:
		p.add(len(s.Text) > 4096, f, own...)
	case 2:
		p.add(x.deep > 4 || no(0, 1000000) || len(s.Clauses) == 0 || len(s.Clauses) > 12, f, own...)
		seen := map[int]bool{}
		for i, c := range s.Clauses {
			if c.Kind >= 1 && c.Kind <= 3 {
				_, code, _ := pat.Compile(c.Kind, c.Text)
				p.add(code != 0, Fault{162, f.Group, f.Test, f.Step}, append(slices.Clone(order), 2, i)...)
			}
			if c.Kind >= 4 && c.Kind <= 7 {
				p.add(seen[c.Kind] || c.Again && c.Kind != 7, Fault{164, f.Group, f.Test, f.Step}, append(slices.Clone(order), 2, i)...)
			}
			p.add(c.Kind < 1 || c.Kind > 7, f, append(slices.Clone(order), 2, i)...)
			seen[c.Kind] = true
		}
	case 3:
		p.add(x.deep > 5 || no(0, 50), f, own...)
	case 4:
		for _, part := range []float64{real(s.Z), imag(s.Z), s.Tol} {
			p.add(part-part != 0, f, own...) // of a NaN and what is endless it isn't
		}
		p.add(s.Tol < 0, f, own...)
	case 5, 6:
	case 7:
		p.add(no(0, 1000000), f, own...)
	default:
		p.add(true, f, own...)
	}
}

func deepOf(c api.Cond) int {
	deep := 0
	for _, kid := range c.Kids {
		deep = max(deep, deepOf(kid))
	}
	return deep + 1
}

// stood is a step, and how deep it is.
type stood struct {
	s    api.Step
	deep int
}

// standing are the first steps of a test in their order: what is to come is a list, at whose front what stands within a step is put.
func standing(ss []api.Step) []stood {
	put := func(ss []api.Step, deep int, ahead []stood) []stood {
		for _, s := range ss {
			ahead = append(ahead, stood{s, deep})
		}
		return ahead
	}
	var out []stood
	for left := put(ss, 1, nil); len(left) > 0 && len(out) < 300; {
		x := left[0]
		out = append(out, x)
		var inner []stood
		switch x.s.Kind {
		case 2:
			for _, c := range x.s.Clauses {
				inner = put(c.Steps, x.deep+2, inner)
			}
		case 3:
			inner = put(x.s.Steps, x.deep+1, inner)
		}
		left = append(inner, left[1:]...)
	}
	return out
}

// steps are all steps that stand in something, found as what is of that type.
func steps(v reflect.Value) int {
	n := 0
	switch v.Kind() {
	case reflect.Struct:
		if v.Type() == reflect.TypeFor[api.Step]() {
			n++
		}
		for i := range v.NumField() {
			n += steps(v.Field(i))
		}
	case reflect.Slice:
		for i := range v.Len() {
			n += steps(v.Index(i))
		}
	}
	return n
}

// agree: a suite's first fault is that of the plain reading, asked once and again, and its steps are as many as there are.
func agree(t *testing.T, s api.Suite) Fault {
	t.Helper()
	want := faults(s).first()
	for range 2 {
		if f := Check(s); f != want {
			t.Fatalf("%+v: %v, not %v", s, f, want)
		}
	}
	for _, g := range s.Groups {
		for _, x := range g.Tests {
			if n, want := Count(x.Steps), min(steps(reflect.ValueOf(x.Steps)), 1001); n != want {
				t.Fatalf("%+v: %d, not %d", x.Steps, n, want)
			}
		}
	}
	return want
}

// places are all fields within something.
func places(v reflect.Value, found []reflect.Value) []reflect.Value {
	switch v.Kind() {
	case reflect.Struct:
		for i := range v.NumField() {
			found = places(v.Field(i), found)
		}
		return found
	case reflect.Slice:
		for i := range v.Len() {
			found = places(v.Index(i), found)
		}
	}
	return append(found, v)
}

func pick[T any](r *rand.Rand, some []T) T { return some[r.Intn(len(some))] }

// spoil gives a field another value, often one at a bound.
func spoil(r *rand.Rand, v reflect.Value) {
	nan, inf := math.NaN(), math.Inf(-1)
	switch v.Kind() {
	case reflect.Int:
		v.SetInt(int64(pick(r, []int{-1, 0, 1, 2, 3, 4, 5, 6, 7, 8, 50, 51, 1000000, 1000001, math.MinInt, math.MaxInt})))
	case reflect.String:
		v.SetString(pick(r, []string{"", "a", "b", "s", "g0", "t0", "(", "[", `\`, "[z-a]", "(", "[", "a-1", "1a", "a\n", strings.Repeat("w", 40), strings.Repeat("w", 41), longest, tooLong, strings.Repeat("x", 256), strings.Repeat("x", 257), strings.Repeat("x", 4096), strings.Repeat("x", 4097)}))
	case reflect.Bool:
		v.SetBool(!v.Bool())
	case reflect.Float64:
		v.SetFloat(pick(r, []float64{0, -0.5, 0.5, nan, inf, -inf, 5e-324, -5e-324}))
	case reflect.Complex128:
		v.SetComplex(pick(r, []complex128{0, 1i, complex(nan, 1), complex(1, nan), complex(inf, 1), complex(1, -inf)}))
	case reflect.Slice:
		spoilList(r, v)
	}
}

func spoilList(r *rand.Rand, v reflect.Value) {
	n := v.Len()
	switch way := r.Intn(5); {
	case way == 0 || n == 0:
		v.Set(reflect.MakeSlice(v.Type(), r.Intn(3), 3)) // of zero values
	case way == 1:
		v.Set(v.Slice(0, n-1))
	case way == 2:
		v.Set(reflect.Append(v.Slice3(0, n, n), v.Index(r.Intn(n))))
	case way == 3:
		swap := reflect.Swapper(v.Interface())
		swap(r.Intn(n), r.Intn(n))
	default:
		to := pick(r, []int{2, 3, 5, 6, 12, 13, 20, 21, 50, 51, 100, 101, 198, 200, 201})
		own := v.Slice3(0, n, n)
		for own.Len() < to {
			own = reflect.Append(own, renamed(own.Index(r.Intn(n)), own.Len()))
		}
		v.Set(own)
	}
}

// renamed is something with a name that nothing else has, if it has a name at all.
func renamed(v reflect.Value, number int) reflect.Value {
	out := reflect.New(v.Type()).Elem()
	out.Set(v)
	if f := out.FieldByName("Name"); f.IsValid() && f.String() != "" {
		f.SetString("n" + strings.Repeat("i", number%30) + strings.Repeat("j", number/30))
	}
	return out
}

func TestChanged(t *testing.T) { // P16.1
	r := rand.New(rand.NewSource(1))
	codes := map[api.Errno]int{}
	const rounds = 20000
	for i := range rounds {
		s := parsed(t, good)
		if i%2 == 0 {
			s = anySuite(r)
		}
		all := places(reflect.ValueOf(&s).Elem(), nil)
		for range r.Intn(4) {
			spoil(r, pick(r, all))
		}
		codes[agree(t, s).Code]++
	}
	for _, code := range []api.Errno{api.OK, api.ErrName, api.ErrSame, api.ErrBound, api.ErrPattern, api.ErrClause} {
		if codes[code] < rounds/500 {
			t.Errorf("code %d was told %d times", code, codes[code])
		}
	}
}

func TestAnyValues(t *testing.T) { // P16.1: what nobody would write
	r := rand.New(rand.NewSource(2))
	agree(t, api.Suite{})
	for range 5000 {
		var s api.Suite
		if r.Intn(2) == 0 {
			s = parsed(t, `suite "s" board "b" { } group "g" { test "t" { } }`)
			anything(r, reflect.ValueOf(&s.Groups[0].Tests[0].Steps).Elem(), 0)
		} else {
			anything(r, reflect.ValueOf(&s).Elem(), 0)
		}
		agree(t, s)
	}
}

// anything fills each field, whatever there is beside it.
func anything(r *rand.Rand, v reflect.Value, deep int) {
	switch v.Kind() {
	case reflect.Struct:
		for i := range v.NumField() {
			anything(r, v.Field(i), deep)
		}
	case reflect.Slice:
		if deep > 6 {
			return
		}
		n := r.Intn(3)
		v.Set(reflect.MakeSlice(v.Type(), n, n))
		for i := range n {
			anything(r, v.Index(i), deep+1)
		}
	case reflect.Int:
		v.SetInt(int64(r.Intn(10) - 1))
	default:
		spoil(r, v)
	}
}
