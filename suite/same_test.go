package suite

import (
	"math"
	"math/rand"
	"reflect"
	"runtime/debug"
	"testing"

	"colloquy/api"
)

// full is a suite in which each list of each kind has two items, and each field a value.
func full() api.Suite {
	var s api.Suite
	n := 0
	fill(reflect.ValueOf(&s).Elem(), map[reflect.Type]int{}, &n)
	return s
}

// fill gives each field a value of its own; lists of a type within themselves have items twice only.
func fill(v reflect.Value, within map[reflect.Type]int, n *int) {
	*n++
	switch v.Kind() {
	case reflect.Struct:
		for i := range v.NumField() {
			fill(v.Field(i), within, n)
		}
	case reflect.Slice:
		if within[v.Type()] == 2 {
			return
		}
		within[v.Type()]++
		v.Set(reflect.MakeSlice(v.Type(), 2, 2))
		for i := range 2 {
			fill(v.Index(i), within, n)
		}
		within[v.Type()]--
	case reflect.String:
		v.SetString(string(rune('a' + *n%26)))
	case reflect.Int:
		v.SetInt(int64(*n))
	case reflect.Bool:
		v.SetBool(*n%2 == 0)
	case reflect.Float64:
		v.SetFloat(float64(*n) / 4)
	case reflect.Complex128:
		v.SetComplex(complex(float64(*n), float64(-*n)))
	}
}

// each changes one thing within something at a time, calls f, and changes it back.
func each(v reflect.Value, f func(what string)) {
	change := func(what string, to any) {
		was := reflect.New(v.Type()).Elem()
		was.Set(v)
		v.Set(reflect.ValueOf(to).Convert(v.Type()))
		f(v.Type().String() + " " + what)
		v.Set(was)
	}
	switch v.Kind() {
	case reflect.Struct:
		for i := range v.NumField() {
			each(v.Field(i), f)
		}
	case reflect.Slice:
		n := v.Len()
		change("with one more", reflect.Append(v.Slice3(0, n, n), reflect.Zero(v.Type().Elem())).Interface())
		if n > 0 {
			change("with one less", v.Slice(0, n-1).Interface())
			change("with none", reflect.Zero(v.Type()).Interface())
			swapped := reflect.AppendSlice(reflect.Zero(v.Type()), v.Slice(1, n))
			change("in another order", reflect.Append(swapped, v.Index(0)).Interface())
		}
		for i := range n {
			each(v.Index(i), f)
		}
	case reflect.String:
		change("longer", v.String()+"x")
		change("another", "\x00"+v.String()[min(1, v.Len()):])
	case reflect.Int:
		change("more", v.Int()+1)
		change("below 0", -v.Int()-1)
	case reflect.Bool:
		change("another", !v.Bool())
	case reflect.Float64:
		change("more", v.Float()+0.25)
		change("no number", math.NaN())
		change("endless", math.Inf(1))
	case reflect.Complex128:
		z := v.Complex()
		change("more", z+1)
		change("more in i", z+1i)
		change("no number", complex(math.NaN(), imag(z)))
		change("no number in i", complex(real(z), math.NaN()))
	}
}

func TestEachField(t *testing.T) { // P14.1: suites that differ in one field alone
	a, b := full(), full()
	if !Same(a, b) || !Same(a, a) {
		t.Fatal("two that are alike aren't the same")
	}
	changes := 0
	each(reflect.ValueOf(&b).Elem(), func(what string) {
		changes++
		if Same(a, b) || Same(b, a) {
			t.Errorf("%s: the same", what)
		}
	})
	if !Same(a, b) || changes < 2000 {
		t.Errorf("%d changes", changes)
	}
}

func TestNoNumbers(t *testing.T) { // P14.1: NaN is the same as none, numbers go by ==
	nan, inf := math.NaN(), math.Inf(1)
	for _, s := range []api.Step{{Tol: nan}, {Z: complex(nan, 0)}, {Z: complex(0, nan)}, {Z: complex(nan, inf)}, {Z: complex(inf, nan)}, {Kind: api.Near, Z: complex(nan, nan), Tol: nan}} {
		loop := api.Step{Kind: api.Loop, Steps: []api.Step{s}}
		clause := api.Step{Kind: api.Expect, Clauses: []api.Clause{{Steps: []api.Step{s}}}}
		for _, one := range []api.Suite{suiteOf(s), suiteOf(loop), suiteOf(clause), suiteOf(api.Step{}, s)} {
			if Same(one, one) {
				t.Errorf("%v is the same as itself", one)
			}
		}
	}
	minus := math.Copysign(0, -1)
	for _, x := range [][2]api.Step{{{Tol: minus}, {}}, {{Z: complex(minus, minus)}, {}}, {{Z: complex(0, minus)}, {Z: complex(minus, 0)}}, {{Tol: inf}, {Tol: inf}}, {{Z: complex(inf, -inf)}, {Z: complex(inf, -inf)}}} {
		if !Same(suiteOf(x[0]), suiteOf(x[1])) {
			t.Errorf("%v and %v aren't the same", x[0], x[1])
		}
	}
	if Same(suiteOf(api.Step{Tol: inf}), suiteOf(api.Step{Tol: -inf})) {
		t.Error("two ends are the same")
	}
}

// emptied is a copy in which each list of nothing is nil or empty, as r has it, and each list has memory of its own.
func emptied(v reflect.Value, r *rand.Rand) reflect.Value {
	out := reflect.New(v.Type()).Elem()
	switch v.Kind() {
	case reflect.Struct:
		for i := range v.NumField() {
			out.Field(i).Set(emptied(v.Field(i), r))
		}
	case reflect.Slice:
		if v.Len() == 0 && r.Intn(2) == 0 {
			return out
		}
		room := r.Intn(3)
		out.Set(reflect.MakeSlice(v.Type(), v.Len()+room, v.Len()+room))
		for i := range v.Len() {
			out.Index(i).Set(emptied(v.Index(i), r))
		}
		for i := range room { // what stands behind a list's length doesn't count
			if e := out.Index(v.Len() + i); e.Kind() == reflect.Struct {
				e.Field(0).Set(reflect.ValueOf(r.Int()).Convert(e.Field(0).Type()))
			}
		}
		out.Set(out.Slice(0, v.Len()))
	default:
		out.Set(v)
	}
	return out
}

func TestEmptyLists(t *testing.T) { // P14.1: no list and one of nothing are the same
	r := rand.New(rand.NewSource(5))
	some := []api.Suite{{}, full(), wholeSuite(), {Boards: []api.Board{{}}}, {Groups: []api.Group{{}}}, {Groups: []api.Group{{Tests: []api.Test{{}}}}}, suiteOf(api.Step{}), suiteOf(api.Step{Clauses: []api.Clause{{}}}), {Groups: []api.Group{{Tests: []api.Test{{Xfail: []api.Cond{{}}}}}}}}
	for i, s := range some {
		for range 30 {
			a := emptied(reflect.ValueOf(s), r).Interface().(api.Suite)
			b := emptied(reflect.ValueOf(s), r).Interface().(api.Suite)
			if !Same(a, b) || !Same(a, s) || !Same(s, b) {
				t.Fatalf("%d: %#v and %#v aren't the same", i, a, b)
			}
			for k, other := range some {
				if k != i && (Same(a, other) || Same(other, a)) {
					t.Fatalf("%v and %v are the same", a, other)
				}
			}
		}
	}
}

func TestAnySame(t *testing.T) { // P14.1
	r := rand.New(rand.NewSource(6))
	last, _ := made(r)
	for range 500 {
		s, _ := made(r)
		copied := emptied(reflect.ValueOf(s), r).Interface().(api.Suite)
		before := told(s)
		if !Same(s, copied) || Same(s, last) != (told(s) == told(last)) {
			t.Fatalf("%v", s)
		}
		count := 0
		each(reflect.ValueOf(&copied).Elem(), func(what string) {
			count++
			if count%7 == 0 && told(s) != told(copied) && (Same(s, copied) || Same(copied, s)) {
				t.Fatalf("%s: %v and %v are the same", what, s, copied)
			}
		})
		if told(s) != before {
			t.Fatal("an argument has changed")
		}
		last = s
	}
}

func TestDeepSame(t *testing.T) { // DOC P1: no call panics, however deep a suite is
	defer debug.SetMaxStack(debug.SetMaxStack(1 << 22))
	const deep = 200000
	around := map[string]func(end int) api.Suite{
		"loops": func(end int) api.Suite {
			s := []api.Step{{Kind: end}}
			for range deep {
				s = []api.Step{{Kind: api.Loop, Steps: s}}
			}
			return suiteOf(s...)
		},
		"clauses": func(end int) api.Suite {
			s := []api.Step{{Kind: end}}
			for range deep {
				s = []api.Step{{Kind: api.Expect, Clauses: []api.Clause{{}, {Kind: api.Late, Steps: s}}}}
			}
			return suiteOf(s...)
		},
		"conditions": func(end int) api.Suite {
			c := api.Cond{Kind: end}
			for range deep {
				c = of(api.And, c, is("a", ""))
			}
			return api.Suite{Groups: []api.Group{{Tests: []api.Test{{Xfail: []api.Cond{c}}}}}}
		},
	}
	for what, of := range around {
		a, b, c := of(1), of(1), of(2)
		if !Same(a, b) || Same(a, c) || Same(c, b) {
			t.Errorf("deep %s", what)
		}
	}
}
