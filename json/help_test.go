package json_test

import (
	"fmt"
	"math/rand/v2"
	"slices"
	"strconv"
	"strings"
	"testing"

	"exchequer/api"
	"exchequer/json"
)

// num is a Number.
func num(literal string) json.Value { return json.Value{Kind: json.Number, Text: literal} }

// str is a String.
func str(s string) json.Value { return json.Value{Kind: json.String, Text: s} }

// arr is an Array.
func arr(l ...json.Value) json.Value { return json.Value{Kind: json.Array, List: l} }

// obj is an Object, its names with a blank between.
func obj(names string, l ...json.Value) json.Value {
	return json.Value{Kind: json.Object, List: l, Names: strings.Split(names, " ")}
}

// within is a value within so many arrays.
func within(v json.Value, depth int) json.Value {
	for range depth {
		v = arr(v)
	}
	return v
}

// nulls is so many values.
func nulls(n int) []json.Value { return make([]json.Value, n) }

// numbered is so many names, none of them twice.
func numbered(n int) []string {
	var l []string
	for i := range n {
		l = append(l, "n"+strconv.Itoa(i))
	}
	return l
}

// equal: are they alike in all fields, the order of members too?
func equal(a, b json.Value) bool {
	return a.Kind == b.Kind && a.Text == b.Text && slices.Equal(a.Names, b.Names) && slices.EqualFunc(a.List, b.List, equal)
}

// tell is the beginning of a text.
func tell(s string) string {
	if len(s) > 60 {
		return strconv.Quote(s[:60]) + " and so on, " + strconv.Itoa(len(s)) + " bytes"
	}
	return strconv.Quote(s)
}

// show is the beginning of a value as it is.
func show(v json.Value) string { return tell(fmt.Sprint(v)) }

// parse is the value of a text that has one.
func parse(t *testing.T, s string) json.Value {
	t.Helper()
	v, place, e := json.Parse([]byte(s))
	if place != 0 || e != api.OK {
		t.Fatalf("%s: %d at %d", tell(s), e, place)
	}
	return v
}

// reads holds what is read from a text against a value.
func reads(t *testing.T, s string, want json.Value) {
	t.Helper()
	v, place, e := json.Parse([]byte(s))
	if place != 0 || e != api.OK || !equal(v, want) {
		t.Errorf("%s: %s, %d at %d, not %s", tell(s), show(v), e, place, show(want))
	}
}

// fails holds what is read from a text against a fault, beside which there is no value.
func fails(t *testing.T, s string, want api.Errno, at int) {
	t.Helper()
	v, place, e := json.Parse([]byte(s))
	if place != at || e != want || !equal(v, json.Value{}) {
		t.Errorf("%s: %d at %d, not %d at %d", tell(s), e, place, want, at)
	}
}

// ends holds a text to be well as far as it goes, but to end too early.
func ends(t *testing.T, s string) {
	t.Helper()
	fails(t, s, api.ErrSyntax, len(s))
}

// print is the text of a value that has one.
func print(t *testing.T, v json.Value) string {
	t.Helper()
	b, e := json.Print(v)
	if e != api.OK {
		t.Fatalf("%s: %d", show(v), e)
	}
	return string(b)
}

// prints holds a value's text against one.
func prints(t *testing.T, v json.Value, want string) {
	t.Helper()
	if b, e := json.Print(v); string(b) != want || e != api.OK {
		t.Errorf("%s, %d, not %s", tell(string(b)), e, tell(want))
	}
}

// refuses holds a value not to be printed.
func refuses(t *testing.T, what string, v json.Value, want api.Errno) {
	t.Helper()
	if b, e := json.Print(v); len(b) != 0 || e != want {
		t.Errorf("%s: %s, %d, not %d", what, tell(string(b)), e, want)
	}
}

// anyText is some characters of each length in bytes, by a chance that is fixed ahead.
func anyText(r *rand.Rand) string {
	all := []rune{0, 1, 0x1F, ' ', '"', '\\', '/', 'a', 'b', 'u', '0', 0x7F, 0x80, 0x7FF, 0x800, 0xD7FF, 0xE000, 0xFFFD, 0xFFFF, 0x10000, 0x1F600, 0x10FFFF}
	var b strings.Builder
	for range r.IntN(5) {
		b.WriteRune(all[r.IntN(len(all))])
	}
	return b.String()
}

// anyLiteral is a literal of some form.
func anyLiteral(r *rand.Rand) string {
	pick := func(l ...string) string { return l[r.IntN(len(l))] }
	return pick("", "-") + pick("0", "7", "10", "123456789012345678901") + pick("", ".0", ".5", ".025") + pick("", "e0", "E+07", "e-1")
}

// anyValue is a value within which there are so many levels at most.
func anyValue(r *rand.Rand, depth int) json.Value {
	kind := r.IntN(json.Object + 1)
	if depth == 0 {
		kind = r.IntN(json.String + 1)
	}
	v := json.Value{Kind: kind}
	switch kind {
	case json.Number:
		v.Text = anyLiteral(r)
	case json.String:
		v.Text = anyText(r)
	case json.Array:
		for range r.IntN(4) {
			v.List = append(v.List, anyValue(r, depth-1))
		}
	case json.Object:
		for range r.IntN(4) {
			if s := anyText(r); !slices.Contains(v.Names, s) {
				v.Names, v.List = append(v.Names, s), append(v.List, anyValue(r, depth-1))
			}
		}
	}
	return v
}

// anyBlanks is some blanks, or none.
func anyBlanks(r *rand.Rand) string {
	var b strings.Builder
	for range max(0, r.IntN(6)-3) {
		b.WriteByte(" \t\n\r"[r.IntN(4)])
	}
	return b.String()
}

// spelled is a text of a value, with blanks and escapes and its members in any order.
func spelled(r *rand.Rand, v json.Value) string {
	s := ""
	switch v.Kind {
	case json.Number:
		s = v.Text
	case json.String:
		s = spelledText(r, v.Text)
	case json.Array:
		var l []string
		for _, x := range v.List {
			l = append(l, spelled(r, x))
		}
		s = "[" + anyBlanks(r) + strings.Join(l, ",") + "]"
	case json.Object:
		var l []string
		for _, i := range r.Perm(len(v.Names)) {
			l = append(l, anyBlanks(r)+spelledText(r, v.Names[i])+anyBlanks(r)+":"+spelled(r, v.List[i]))
		}
		s = "{" + anyBlanks(r) + strings.Join(l, ",") + "}"
	default:
		s = []string{"null", "false", "true"}[v.Kind]
	}
	return anyBlanks(r) + s + anyBlanks(r)
}

// spelledText is a string of a text, with escapes where there must be one, and elsewhere, too.
func spelledText(r *rand.Rand, s string) string {
	var b strings.Builder
	b.WriteByte('"')
	for _, c := range s {
		short := strings.IndexRune("\"\\/\b\f\n\r\t", c)
		switch {
		case short >= 0 && r.IntN(2) == 0:
			b.WriteString(`\` + `"\/bfnrt`[short:short+1])
		case c < 0x20 || c == '"' || c == '\\' || r.IntN(3) == 0:
			b.WriteString(units(r, c))
		default:
			b.WriteRune(c)
		}
	}
	return b.String() + `"`
}

// units is a character as one escape or two of \u, by digits of either size.
func units(r *rand.Rand, c rune) string {
	hex := strconv.FormatInt(int64(c), 16)
	if c >= 0x10000 {
		high, low := (c-0x10000)/0x400, (c-0x10000)%0x400
		return units(r, 0xD800+high) + units(r, 0xDC00+low)
	}
	hex = strings.Repeat("0", 4-len(hex)) + hex
	if r.IntN(2) == 0 {
		hex = strings.ToUpper(hex)
	}
	return `\u` + hex
}
