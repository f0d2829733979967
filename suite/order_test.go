package suite

import (
	"math/rand"
	"reflect"
	"strings"
	"testing"

	"colloquy/api"
)

func TestBlanksChangeNothing(t *testing.T) { // P14.2
	r := rand.New(rand.NewSource(1))
	want, _ := Parse(whole)
	for range 300 {
		text := loose(r, texts(t, whole))
		if got, flaw := Parse(text); flaw != (api.Flaw{}) || told(got) != told(want) {
			t.Fatalf("%q: %v, %v", text, got, flaw)
		}
	}
	for range 1000 {
		_, tokens := made(r)
		one, _ := Parse(joined(tokens))
		for range 3 {
			two, flaw := Parse(loose(r, tokens))
			if flaw != (api.Flaw{}) || !Same(one, two) || told(one) != told(two) {
				t.Fatalf("%q: %v, %v", tokens, two, flaw)
			}
		}
		// Of a flaw the code stays, and the token that it stands at.
		cut := tokens[:r.Intn(len(tokens))]
		_, a := Parse(joined(cut))
		_, b := Parse(loose(r, cut))
		if a.Code != b.Code {
			t.Fatalf("%q: %v, %v", cut, a, b)
		}
	}
}

func TestWithoutTheLastToken(t *testing.T) { // P14.2
	r := rand.New(rand.NewSource(2))
	lacks := func(tokens []string) {
		t.Helper()
		one, flaw := Parse(joined(tokens))
		if flaw != (api.Flaw{}) {
			t.Fatalf("%q: %v", tokens, flaw)
		}
		if two, flaw := Parse(joined(tokens[:len(tokens)-1])); flaw == (api.Flaw{}) && Same(one, two) {
			t.Fatalf("%q is the same without its last token", tokens)
		}
	}
	lacks(texts(t, whole))
	lacks(texts(t, `suite ""`))
	lacks(texts(t, `suite "" board "" { }`))
	lacks(texts(t, `suite "" group "" { }`))
	for range 3000 {
		_, tokens := made(r)
		lacks(tokens)
	}
}

// lists are where all lists within something have their items, and their spare room.
func lists(v reflect.Value, seen map[any]bool) (shared bool) {
	switch v.Kind() {
	case reflect.Struct:
		for i := range v.NumField() {
			shared = lists(v.Field(i), seen) || shared
		}
	case reflect.Slice:
		room := v.Slice(0, v.Cap())
		for i := range room.Len() {
			at := room.Index(i).Addr().Interface()
			shared = shared || seen[at]
			seen[at] = true
		}
		for i := range v.Len() {
			shared = lists(v.Index(i), seen) || shared
		}
	}
	return shared
}

// over writes over all lists within something, and over their spare room.
func over(v reflect.Value) {
	switch v.Kind() {
	case reflect.Struct:
		for i := range v.NumField() {
			over(v.Field(i))
		}
	case reflect.Slice:
		for i := range v.Len() {
			over(v.Index(i))
		}
		room := v.Slice(0, v.Cap())
		for i := range room.Len() {
			room.Index(i).SetZero()
		}
	}
}

func TestAnswersAreNew(t *testing.T) { // P14.3
	r := rand.New(rand.NewSource(3))
	all := []string{whole, `suite "s" group "g" { test "t" xfail a="" & b="" & c="" | (d="" | e="" | f="") { pass pass pass } test "u" {} test "v" {} }`}
	for range 1000 {
		_, tokens := made(r)
		all = append(all, joined(tokens))
	}
	for _, text := range all {
		one, _ := Parse(text)
		two, _ := Parse(text)
		before := told(two)
		seen := map[any]bool{}
		if lists(reflect.ValueOf(&one).Elem(), seen) || lists(reflect.ValueOf(&two).Elem(), seen) {
			t.Fatalf("%q: two lists share memory", text)
		}
		over(reflect.ValueOf(&one).Elem())
		three, flaw := Parse(text)
		if told(two) != before || told(three) != before || flaw != (api.Flaw{}) {
			t.Fatalf("%q: %v, %v", text, two, three)
		}
	}
}

func TestTextStays(t *testing.T) { // DOC P2: answers hang on the text alone
	text := strings.Clone(whole)
	first, _ := Parse(text)
	Parse("suite 3")
	Parse(inTest("{ loop 1 { loop 1 {"))
	Parse(inTest("xfail (((("))
	if again, flaw := Parse(text); flaw != (api.Flaw{}) || told(again) != told(first) || text != whole {
		t.Errorf("%v, %v", again, flaw)
	}
}
