package sound

import (
	"fmt"
	"math/rand"
	"reflect"
	"slices"
	"strings"
	"testing"

	"colloquy/api"
	"colloquy/print"
	"colloquy/suite"
)

// widest is a sound suite with as much of each as there may be.
func widest() api.Suite {
	name := func(number int) string { return fmt.Sprintf("%080d", number) }
	word := func(number int) string { return fmt.Sprintf("w%039d", number) }
	conds := many(5, func(i int) api.Cond { return deepCond(8) })
	conds[0].Kids[0].Kids[0] = api.Cond{Kind: api.Or, Kids: []api.Cond{deepCond(5), {Kind: api.And, Kids: []api.Cond{deepCond(4), {Kind: api.Isnt, Name: word(0)}}}}}
	inner := many(11, func(i int) api.Clause {
		return api.Clause{Kind: api.Regex, Text: strings.Repeat("x", 256), Again: true, Steps: passes(4)}
	})
	deep := expect(append(inner, api.Clause{Kind: api.Full, Again: true, Steps: []api.Step{expect(api.Clause{Kind: api.Late, Steps: []api.Step{loop(passes(1)...)}})}})...)
	deep.Clauses[11].Steps[0].N = api.MaxTicks
	deep.Clauses[11].Steps[0].Clauses[0].Steps[0].N = api.MaxLoop
	t := api.Test{Name: name(0), Budget: api.MaxTicks, Xfail: conds, Steps: []api.Step{deep}}
	t.Steps = append(t.Steps, api.Step{Kind: api.Send, Text: strings.Repeat("x", 4096)}, loop(loop(loop(loop(loop(api.Step{Kind: api.Wait, N: api.MaxTicks}))))))
	t.Steps = append(t.Steps, passes(200-Count(t.Steps))...)
	s := api.Suite{Name: name(0)}
	s.Boards = many(20, func(i int) api.Board {
		return api.Board{Name: name(i), Props: many(4, func(i int) api.Prop { return api.Prop{Name: word(i)} })}
	})
	s.Groups = many(100, func(i int) api.Group { return api.Group{Name: name(i)} })
	s.Groups[7].Tests = append(tests(49), t)
	return s
}

// back: a sound suite's text is parsed as a sound suite.
func back(t *testing.T, s api.Suite) {
	t.Helper()
	if f := Check(s); f != at(api.OK) {
		t.Fatalf("%+v: %v", s, f)
	}
	text := print.Text(s)
	again, flaw := suite.Parse(text)
	if flaw.Code != api.OK {
		t.Fatalf("%s: %v", text, flaw)
	}
	if f := Check(again); f != at(api.OK) {
		t.Fatalf("%s: %v", text, f)
	}
}

// less: a sound suite without one of its groups is sound.
func less(t *testing.T, s api.Suite) {
	t.Helper()
	for i := range s.Groups {
		one := s
		one.Groups = slices.Delete(slices.Clone(s.Groups), i, i+1)
		if f := Check(one); f != at(api.OK) {
			t.Fatalf("%+v without group %d: %v", s, i, f)
		}
	}
}

func TestParsedAgain(t *testing.T) { // P16.2
	back(t, parsed(t, good))
	wide := widest()
	back(t, wide)
	for _, spoilt := range []func(s *api.Suite){
		func(s *api.Suite) { s.Boards = boards(21) },
		func(s *api.Suite) { s.Groups = groups(101) },
		func(s *api.Suite) {
			s.Groups[7].Tests = append(s.Groups[7].Tests, api.Test{Name: "one more", Budget: 1})
		},
		func(s *api.Suite) { s.Groups[7].Tests[49].Steps = append(s.Groups[7].Tests[49].Steps, passes(1)...) },
	} {
		s := widest()
		if spoilt(&s); Check(s).Code != api.ErrBound {
			t.Errorf("not the widest: %v", Check(s))
		}
	}
	r := rand.New(rand.NewSource(3))
	for range 3000 {
		back(t, anySuite(r))
	}
}

func TestWithoutAGroup(t *testing.T) { // P16.2
	less(t, parsed(t, good))
	less(t, widest())
	r := rand.New(rand.NewSource(4))
	for range 1000 {
		less(t, anySuite(r))
	}
}

// roomy gives all lists within something memory of their own, with room behind them that holds zero values and one that isn't.
func roomy(v reflect.Value) {
	switch v.Kind() {
	case reflect.Struct:
		for i := range v.NumField() {
			roomy(v.Field(i))
		}
	case reflect.Slice:
		n := v.Len()
		own := reflect.MakeSlice(v.Type(), n+2, n+2)
		reflect.Copy(own, v)
		if f := own.Index(n + 1).FieldByName("Name"); f.IsValid() {
			f.SetString("behind")
		} else {
			own.Index(n + 1).FieldByName("Text").SetString("behind")
		}
		v.Set(own.Slice(0, n))
		for i := range n {
			roomy(v.Index(i))
		}
	}
}

// whole is something as a text, with the room behind its lists.
func whole(v reflect.Value, out *strings.Builder) {
	switch v.Kind() {
	case reflect.Struct:
		for i := range v.NumField() {
			whole(v.Field(i), out)
		}
	case reflect.Slice:
		fmt.Fprintf(out, "%d of [", v.Len())
		for i := range v.Cap() {
			whole(v.Slice(0, v.Cap()).Index(i), out)
		}
		out.WriteString("]")
	default:
		fmt.Fprintf(out, "%#v ", v.Interface())
	}
}

func TestArgumentStays(t *testing.T) { // P16.3
	r := rand.New(rand.NewSource(5))
	all := []api.Suite{{}, parsed(t, good), widest()}
	for _, x := range inOrder() {
		s := parsed(t, good)
		x.do(&s)
		all = append(all, s)
	}
	for range 300 {
		all = append(all, anySuite(r))
	}
	for _, s := range all {
		v := reflect.ValueOf(&s).Elem()
		roomy(v)
		var before, after strings.Builder
		whole(v, &before)
		f := Check(s)
		for _, g := range s.Groups {
			for _, x := range g.Tests {
				Count(x.Steps)
			}
		}
		whole(v, &after)
		if before.String() != after.String() {
			t.Fatalf("%s has become %s", before.String(), after.String())
		}
		// What is handed in isn't kept: written over, it is another suite, and what was told stays.
		if g := Check(s); f != g {
			t.Fatalf("%v, then %v", f, g)
		}
		s.Name = ""
		if g := Check(s); g != at(api.ErrName) {
			t.Fatalf("%v", g)
		}
	}
}
