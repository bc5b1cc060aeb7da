package json_test

import (
	"bytes"
	"math/rand/v2"
	"slices"
	"strings"
	"testing"
	"unsafe"

	"exchequer/api"
	"exchequer/json"
)

// twin is a value like another one, in other memory, with spare room behind its lists.
func twin(v json.Value) json.Value {
	w := json.Value{Kind: v.Kind, Text: strings.Clone(v.Text)}
	for _, x := range v.List {
		w.List = append(w.List, twin(x))
	}
	for _, s := range v.Names {
		w.Names = append(w.Names, strings.Clone(s))
	}
	return w
}

// spoil writes to all of a value's lists, and to their spare room.
func spoil(v json.Value) {
	for _, x := range v.List {
		spoil(x)
	}
	spare := v.List[:cap(v.List)]
	for i := range spare {
		spare[i] = json.Value{Kind: 99, Text: "spoilt"}
	}
	names := v.Names[:cap(v.Names)]
	for i := range names {
		names[i] = "spoilt"
	}
}

// texts are all texts of a value.
func texts(v json.Value) []string {
	l := append([]string{v.Text}, v.Names...)
	for _, x := range v.List {
		l = append(l, texts(x)...)
	}
	return l
}

// shares: has a text its memory from other memory?
func shares(s string, first *byte, n int) bool {
	at, from := uintptr(unsafe.Pointer(unsafe.StringData(s))), uintptr(unsafe.Pointer(first))
	return s != "" && at >= from && at < from+uintptr(n)
}

// TestP7_5Parse reads bytes that stand ahead of others, spoils them, and spoils what was read: nothing hangs on the other.
func TestP7_5Parse(t *testing.T) {
	r := rand.New(rand.NewPCG(7, 5))
	for range 500 {
		v := anyValue(r, 3)
		s := spelled(r, v)
		b := []byte(s + "behind")
		first, _, _ := json.Parse(b[:len(s)])
		second, _, _ := json.Parse(b[:len(s)])
		if string(b) != s+"behind" {
			t.Fatalf("%s: changed", tell(s))
		}
		for _, text := range texts(first) {
			if shares(text, &b[0], len(b)) {
				t.Errorf("%s: %s is kept", tell(s), tell(text))
			}
		}
		kept := twin(first)
		clear(b)
		if !equal(first, kept) || !json.Same(first, v) {
			t.Errorf("%s: %v", tell(s), first)
		}
		spoil(first)
		if !equal(second, kept) {
			t.Errorf("%s: %v", tell(s), second)
		}
	}
}

// TestP7_5Lists writes behind each list of an answer: no other list changes.
func TestP7_5Lists(t *testing.T) {
	s := `[[1,2,3],[4,5,6],{"a":1,"b":2,"c":[1]},{"d":[],"e":{},"f":3},[],[]]`
	for i := range 6 {
		v := parse(t, s)
		kept := twin(v)
		v.List[i].List = append(v.List[i].List, str("x"), str("y"))
		v.List[i].Names = append(v.List[i].Names, "x", "y")
		for j := range 6 {
			if i != j && !equal(v.List[j], kept.List[j]) {
				t.Errorf("%d behind %d: %v", j, i, v.List[j])
			}
		}
	}
	long := parse(t, "["+strings.Repeat(`"aaaa",`, 10)+"{}]")
	short, _, _ := json.Parse([]byte(`["aaaa",]`))
	if short.List = append(short.List, str("x")); !equal(long.List[0], str("aaaa")) {
		t.Errorf("%v", long)
	}
}

// TestP7_5Print prints values that are as they were, and spoils texts, of which none hangs on another.
func TestP7_5Print(t *testing.T) {
	r := rand.New(rand.NewPCG(75, 7))
	for range 500 {
		v := twin(anyValue(r, 3))
		kept := twin(v)
		a, _ := json.Print(v)
		b, _ := json.Print(v)
		was := string(a)
		for i := range b[:cap(b)] {
			b[:cap(b)][i] = 'x'
		}
		if !equal(v, kept) || string(a) != was {
			t.Errorf("%v: %s", v, tell(string(a)))
		}
		if c, _ := json.Print(v); string(c) != was {
			t.Errorf("%v: %s, not %s", v, tell(string(c)), tell(was))
		}
		spoil(v)
		if string(a) != was {
			t.Errorf("%v: %s", kept, tell(string(a)))
		}
	}
	for _, v := range []json.Value{obj("b a b", num("1"), num("2"), num("3")), arr(obj("c b a", num("1"), num("x"), num("2"))), obj("b a", num("1"))} {
		kept := twin(v)
		json.Print(v)
		json.Same(v, twin(v))
		if json.Get(v, "a"); !equal(v, kept) {
			t.Errorf("%v, not %v", v, kept)
		}
	}
}

// TestP7_5Get takes members out of values, and spoils either.
func TestP7_5Get(t *testing.T) {
	r := rand.New(rand.NewPCG(57, 7))
	for range 500 {
		name := strings.Clone("name")
		v := json.Value{Kind: json.Object, Names: []string{"x", name}, List: []json.Value{anyValue(r, 2), twin(anyValue(r, 3))}}
		kept := twin(v)
		got, is := json.Get(v, "name")
		other, _ := json.Get(v, "name")
		if !is || !equal(got, kept.List[1]) {
			t.Fatalf("%v: %v, %t", v, got, is)
		}
		from := texts(v)
		for _, text := range texts(got) {
			if slices.ContainsFunc(from, func(s string) bool { return s != "" && shares(text, unsafe.StringData(s), len(s)) }) {
				t.Errorf("%v: %s is the same memory", v, tell(text))
			}
		}
		spoil(got)
		if !equal(v, kept) || !equal(other, kept.List[1]) {
			t.Errorf("%v: %v", v, other)
		}
		spoil(v)
		if !equal(other, kept.List[1]) {
			t.Errorf("%v: %v", kept, other)
		}
	}
}

// TestP7_5Same holds values against each other, which are as they were.
func TestP7_5Same(t *testing.T) {
	r := rand.New(rand.NewPCG(77, 5))
	for range 500 {
		a := twin(anySmall(r, 3))
		b := shuffled(r, a)
		keptA, keptB := twin(a), twin(b)
		if json.Same(a, b); !equal(a, keptA) || !equal(b, keptB) {
			t.Errorf("%v, %v", a, b)
		}
	}
}

// TestP7_5Texts makes values and texts of texts whose memory they do not keep.
func TestP7_5Texts(t *testing.T) {
	for _, s := range []string{"a", "abc", "é", strings.Repeat("x", 1000)} {
		b := bytes.Clone([]byte(s))
		held := unsafe.String(&b[0], len(b))
		v, quoted := json.OfText(held), json.Quote(held)
		if shares(v.Text, &b[0], len(b)) || shares(quoted, &b[0], len(b)) {
			t.Errorf("%s: the same memory", tell(s))
		}
		b[0] = 'X'
		if v.Text != s || quoted != `"`+s+`"` {
			t.Errorf("%s: %s, %s", tell(s), tell(v.Text), tell(quoted))
		}
	}
}

// TestP7_5Errors finds values as they were beside an error.
func TestP7_5Errors(t *testing.T) {
	for _, v := range []json.Value{arr(obj("b a", num("1"), num("x"))), obj("b a a", num("1"), num("2"), num("3")), obj("b a", str(strings.Repeat("a", api.MaxText)), num("1"))} {
		kept := twin(v)
		if b, e := json.Print(v); e == api.OK || b != nil || !equal(v, kept) {
			t.Errorf("%s: %d", show(v), e)
		}
	}
}
