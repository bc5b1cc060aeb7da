package json_test

import (
	"math/rand/v2"
	"regexp"
	"slices"
	"strconv"
	"strings"
	"testing"
	"unicode/utf8"

	"exchequer/api"
	"exchequer/json"
)

// TestP7_2Examples is the chapter's example.
func TestP7_2Examples(t *testing.T) {
	prints(t, parse(t, ` {"b" : [1, 2.50e1], "a":"\u0041\/"} `), `{"a":"A/","b":[1,2.50e1]}`)
}

// TestP7_2Forms prints values of each kind; the fields that a kind does not name are not looked at.
func TestP7_2Forms(t *testing.T) {
	junk := json.Value{Text: "\xff", List: []json.Value{{Kind: 9}}, Names: []string{"\xff", "\xff"}}
	for kind, want := range []string{"null", "false", "true"} {
		prints(t, json.Value{Kind: kind}, want)
		junk.Kind = kind
		prints(t, junk, want)
	}
	prints(t, json.Value{Kind: json.Number, Text: "1.50", List: junk.List, Names: junk.Names}, "1.50")
	prints(t, json.Value{Kind: json.String, Text: "a", List: junk.List, Names: junk.Names}, `"a"`)
	prints(t, json.Value{Kind: json.Array, Text: "\xff", List: []json.Value{num("1"), str("b")}, Names: junk.Names}, `[1,"b"]`)
	prints(t, json.Value{Kind: json.Object, Text: "\xff", List: []json.Value{num("1")}, Names: []string{"a"}}, `{"a":1}`)
	prints(t, arr(), "[]")
	prints(t, json.Value{Kind: json.Object}, "{}")
	prints(t, arr(arr(), arr(num("-0"), num("0.0E+05")), json.Value{}, obj("b a", arr(str("")), obj("", json.Value{Kind: json.True}))), `[[],[-0,0.0E+05],null,{"a":{"":true},"b":[""]}]`)
	prints(t, str("\" \\ / \b\f\n\r\t é 😀 \x7f"), `"\" \\ / \u0008\u000c\u000a\u000d\u0009 é 😀 \u007f"`)
}

// TestP7_2Names prints members by the bytes of their names, not by how they are written, nor as their characters would stand in another encoding.
func TestP7_2Names(t *testing.T) {
	rise := []string{"", "\x00", "\n", " ", "!", `"`, "#", "0", "10", "9", "A", "Z", "[", `\`, "]", "a", "a\x00", "a ", "aa", "ab", "b", "\x7f", "\u0080", "é", "\u07ff", "\u0800", "\uffff", "\U00010000", "\U0010ffff"}
	r := rand.New(rand.NewPCG(7, 2))
	for range 200 {
		v := json.Value{Kind: json.Object}
		for _, i := range r.Perm(len(rise)) {
			v.Names, v.List = append(v.Names, rise[i]), append(v.List, json.OfInt(i))
		}
		want := "{"
		for i, s := range rise {
			want += strings.Repeat(",", min(i, 1)) + json.Quote(s) + ":" + strconv.Itoa(i)
		}
		prints(t, v, want+"}")
		prints(t, arr(v, obj("x", v)), "["+want+`},{"x":`+want+"}}]")
	}
}

// TestP7_2Literals holds each short text of some bytes to be a literal or none, as a pattern of RFC 8259's rule has it.
func TestP7_2Literals(t *testing.T) {
	literal := regexp.MustCompile(`^-?(0|[1-9][0-9]*)(\.[0-9]+)?([eE][-+]?[0-9]+)?$`)
	var try func(s string)
	try = func(s string) {
		if literal.MatchString(s) {
			prints(t, num(s), s)
		} else {
			refuses(t, s, num(s), api.ErrForm)
		}
		for _, c := range "-+.e01E9" {
			if len(s) < 6 {
				try(s + string(c))
			}
		}
	}
	try("")
	for _, s := range []string{" 1", "1 ", "1\n", "1,", "1]", "0x1", "1_0", "Infinity", "NaN", "null", "\"1\"", "1.5.", "\xff", "1\x00", "٣"} {
		refuses(t, s, num(s), api.ErrForm)
	}
	nines := strings.Repeat("9", 50)
	for _, s := range []string{nines[:40], "-" + nines[:39], "0." + nines[:38], "1e-" + nines[:37]} {
		prints(t, num(s), s)
		refuses(t, s, num(s+"9"), api.ErrForm)
		refuses(t, s, num(s+nines), api.ErrForm)
	}
}

// TestP7_2Errors refuses values, each by its own error.
func TestP7_2Errors(t *testing.T) {
	one := num("1")
	for _, kind := range []int{-1, 7, 8, 100, -1 << 63, 1<<63 - 1} {
		refuses(t, "kind "+strconv.Itoa(kind), json.Value{Kind: kind, Text: "1"}, api.ErrKind)
	}
	for _, s := range []string{"\xff", "a\x80", "\xc0\x80", "\xed\xa0\x80", "\xf4\x90\x80\x80", "\xe2\x82", "é\xc3"} {
		refuses(t, tell(s), str(s), api.ErrForm)
		refuses(t, tell(s), obj(s, one), api.ErrForm)
		refuses(t, tell(s), obj("a "+s, one, one), api.ErrForm)
	}
	refuses(t, "fewer names", obj("a", one, one), api.ErrForm)
	refuses(t, "no names", json.Value{Kind: json.Object, List: []json.Value{one}}, api.ErrForm)
	refuses(t, "more names", obj("a b", one), api.ErrForm)
	refuses(t, "no elements", obj("a"), api.ErrForm)
	for _, names := range []string{"a a", "a b a", "b a a", " ", "b a c d a e"} {
		refuses(t, names, json.Value{Kind: json.Object, Names: strings.Split(names, " "), List: nulls(1 + strings.Count(names, " "))}, api.ErrTwice)
	}
	prints(t, obj("a A aa á", one, one, one, one), `{"A":1,"a":1,"aa":1,"á":1}`)
}

// TestP7_2Bounds prints values at the bounds of depth and of members, and refuses what is beyond.
func TestP7_2Bounds(t *testing.T) {
	for _, v := range []json.Value{num("1"), arr(), {Kind: json.Object}, arr(num("1"), str("a")), obj("a", num("1"))} {
		inner := print(t, v)
		prints(t, within(v, 31), strings.Repeat("[", 31)+inner+strings.Repeat("]", 31))
		if v.Kind == json.Number {
			prints(t, within(v, 32), strings.Repeat("[", 32)+inner+strings.Repeat("]", 32))
			continue
		}
		refuses(t, inner, within(v, 32), api.ErrDeep)
		refuses(t, inner, within(obj("a", v), 31), api.ErrDeep)
		refuses(t, inner, within(v, 1000), api.ErrDeep)
	}
	prints(t, arr(nulls(1000)...), "["+strings.Repeat("null,", 999)+"null]")
	refuses(t, "1001 elements", arr(nulls(1001)...), api.ErrMany)
	refuses(t, "1001 elements", obj("a", arr(nulls(1001)...)), api.ErrMany)
	for n, want := range map[int]api.Errno{1000: api.OK, 1001: api.ErrMany, 5000: api.ErrMany} {
		if _, e := json.Print(json.Value{Kind: json.Object, Names: numbered(n), List: nulls(n)}); e != want {
			t.Errorf("%d members: %d", n, e)
		}
	}
}

// TestP7_2Order refuses values that have several faults: of one value the fault that the chapter names first, of several values that of the outer one and of the left one.
func TestP7_2Order(t *testing.T) {
	names := append(numbered(1000), "n0")
	twice := json.Value{Kind: json.Object, Names: names, List: nulls(1001)}
	unformed := json.Value{Kind: json.Object, Names: append(numbered(1000), "\xff"), List: nulls(1001)}
	uneven := json.Value{Kind: json.Object, Names: names, List: nulls(1000)}
	many, kind, form := arr(nulls(1001)...), json.Value{Kind: 7}, num("x")
	double := obj("a a", num("1"), num("1"))
	badNames := obj("a a \xff", num("1"), num("1"), num("1"))
	long := str(strings.Repeat("a", api.MaxText))
	for what, x := range map[string]struct {
		v json.Value
		e api.Errno
	}{
		"many, twice": {twice, api.ErrMany}, "form, many": {unformed, api.ErrForm}, "uneven, many, twice": {uneven, api.ErrForm}, "form, twice": {badNames, api.ErrForm},
		"deep, many": {within(many, 32), api.ErrDeep}, "deep, twice": {within(double, 32), api.ErrDeep}, "form, deep": {within(badNames, 32), api.ErrForm}, "uneven, deep": {within(uneven, 32), api.ErrForm}, "deep, kind": {within(kind, 33), api.ErrDeep}, "kind within": {within(kind, 32), api.ErrKind}, "kind too deep": {within(kind, 34), api.ErrDeep},
		"outer twice": {obj("a a", kind, form), api.ErrTwice}, "outer form": {obj("a b c", kind, form), api.ErrForm}, "outer many": {arr(append(nulls(1000), kind)...), api.ErrMany}, "outer many, left": {arr(append([]json.Value{kind}, nulls(1000)...)...), api.ErrMany},
		"left kind": {arr(kind, form), api.ErrKind}, "left form": {arr(form, kind), api.ErrForm}, "left within": {arr(arr(num("1"), arr(kind)), form, double), api.ErrKind}, "left twice": {arr(double, kind), api.ErrTwice}, "left many": {arr(num("1"), many, kind), api.ErrMany}, "left deep": {arr(within(arr(), 32), kind), api.ErrDeep},
		"left of members": {obj("b a", kind, form), api.ErrKind}, "not by names": {obj("b a", form, kind), api.ErrForm}, "long, kind": {arr(long, kind), api.ErrKind}, "long, form": {arr(long, long, form), api.ErrForm}, "long, twice": {arr(long, double), api.ErrTwice}, "long, deep": {arr(long, within(arr(), 32)), api.ErrDeep}, "long, many": {arr(long, many), api.ErrMany}, "long": {arr(long), api.ErrLong},
	} {
		refuses(t, what, x.v, x.e)
	}
}

// TestP7_2Long prints values whose texts have as many bytes as they may have, and one more.
func TestP7_2Long(t *testing.T) {
	a := func(n int) string { return strings.Repeat("a", n) }
	const most = api.MaxText
	for what, build := range map[string]func(more int) json.Value{
		"String":           func(more int) json.Value { return str(a(most - 2 + more)) },
		"escaped":          func(more int) json.Value { return str(strings.Repeat("\n", 10000) + a(most-60002+more)) },
		"quoted":           func(more int) json.Value { return str(strings.Repeat(`"`, 30000) + a(most-60002+more)) },
		"é":                func(more int) json.Value { return str("é" + a(most-4+more)) },
		"element":          func(more int) json.Value { return arr(str(a(most - 4 + more))) },
		"elements":         func(more int) json.Value { return arr(str(a(30000)), num("1"), str(a(most-30009+more))) },
		"a last null":      func(more int) json.Value { return arr(str(a(most-9+more)), json.Value{}) },
		"a last one":       func(more int) json.Value { return arr(str(a(most-6+more)), num("1")) },
		"a last element":   func(more int) json.Value { return arr(str(a(most-7+more)), arr()) },
		"name":             func(more int) json.Value { return obj(a(most-6+more), num("1")) },
		"names":            func(more int) json.Value { return obj("b "+a(most-12+more), num("1"), num("1")) },
		"a member's value": func(more int) json.Value { return obj("a", str(a(most-8+more))) },
		"levels":           func(more int) json.Value { return within(str(a(most-66+more)), 32) },
		"literal":          func(more int) json.Value { return arr(str(a(most-25+more)), num("12345678901234567890")) },
	} {
		if n := len(print(t, build(0))); n != most {
			t.Errorf("%s: %d bytes", what, n)
		}
		for _, more := range []int{1, 2, 10, 100, 100000} {
			refuses(t, what, build(more), api.ErrLong)
		}
	}
	list := nulls(1000)
	for range 2 {
		v := arr(list...)
		list = nulls(1000)
		for i := range list {
			list[i] = v
		}
	}
	refuses(t, "a list that stands in it many times", arr(list[:20]...), api.ErrLong)
}

// model is why a value may not be printed, told by going over all of its values first.
func model(v json.Value) api.Errno {
	type spot struct {
		v     json.Value
		depth int
	}
	for rest := []spot{{v, 0}}; len(rest) > 0; {
		x := rest[0].v
		holds := x.Kind == json.Array || x.Kind == json.Object
		names := slices.Clone(x.Names)
		slices.Sort(names)
		formed := slices.IndexFunc(names, func(s string) bool { return !utf8.ValidString(s) }) < 0 && len(names) == len(x.List)
		switch {
		case x.Kind < 0 || x.Kind > 6:
			return api.ErrKind
		case x.Kind == json.Number && x.Text != "1", x.Kind == json.String && !utf8.ValidString(x.Text), x.Kind == json.Object && !formed:
			return api.ErrForm
		case holds && rest[0].depth >= 32:
			return api.ErrDeep
		case x.Kind == json.Object && len(slices.Compact(names)) < len(x.Names):
			return api.ErrTwice
		}
		var inner []spot
		for _, y := range x.List {
			if holds {
				inner = append(inner, spot{y, rest[0].depth + 1})
			}
		}
		rest = append(inner, rest[1:]...)
	}
	return api.OK
}

// anyJunk is a value that may be faulty anywhere.
func anyJunk(r *rand.Rand, depth int) json.Value {
	pick := func(l ...string) string { return l[r.IntN(len(l))] }
	v := json.Value{Kind: r.IntN(8) - r.IntN(30)/29, Text: pick("1", "1", "1", "1", "1", "1", "x", "\xff")}
	if v.Kind == json.String || v.Kind == json.Number {
		v.Text = pick("1", "1", "1", "1", v.Text)
	}
	for range r.IntN(4) {
		if depth > 0 {
			v.List = append(v.List, anyJunk(r, depth-1))
			v.Names = append(v.Names, pick("a", "b", "c", "d", "e", "f", "g", "h", "i", "j", "k", "\xff"))
		}
	}
	if r.IntN(10) == 0 {
		v.Names = append(v.Names, "z")
	}
	return v
}

// TestP7_2Model holds what Print makes of any values against the model.
func TestP7_2Model(t *testing.T) {
	r := rand.New(rand.NewPCG(72, 7))
	told := map[api.Errno]int{}
	for range 50000 {
		v := within(anyJunk(r, 1+r.IntN(4)), max(0, r.IntN(60)-26))
		want := model(v)
		told[want]++
		if b, e := json.Print(v); e != want || (e == api.OK) != (len(b) > 0) {
			t.Fatalf("%s: %s, %d, not %d", show(v), tell(string(b)), e, want)
		}
	}
	for _, e := range []api.Errno{api.OK, api.ErrKind, api.ErrForm, api.ErrDeep, api.ErrTwice} {
		if told[e] < 100 {
			t.Errorf("%d: %d times", e, told[e])
		}
	}
}

// TestP7_3Examples is the chapter's example.
func TestP7_3Examples(t *testing.T) {
	if s := json.Quote("\n\""); s != `"\u000a\""` {
		t.Error(s)
	}
}

// TestP7_3Bytes quotes each byte, be it of a character or not.
func TestP7_3Bytes(t *testing.T) {
	for i := range 256 {
		c := string([]byte{byte(i)})
		want := c
		switch {
		case c == `"`:
			want = `\"`
		case c == `\`:
			want = `\\`
		case i < 0x10:
			want = `\u000` + "0123456789abcdef"[i:i+1]
		case i < 0x20:
			want = `\u001` + "0123456789abcdef"[i-16:i-15]
		case i == 0x7F:
			want = `\u007f`
		}
		for ahead, shown := range map[string]string{"": "", "a": "a", "\xe2\x82": "\xe2\x82", `\`: `\\`, "é\x1f/": `é\u001f/`} {
			if got := json.Quote(ahead + c + ahead); got != `"`+shown+want+shown+`"` {
				t.Errorf("%s: %s", tell(ahead+c+ahead), tell(got))
			}
		}
	}
	if s := json.Quote(""); s != `""` {
		t.Error(s)
	}
	if s := json.Quote(strings.Repeat("\x01", 1<<20)); s != `"`+strings.Repeat(`\u0001`, 1<<20)+`"` {
		t.Errorf("%d bytes", len(s))
	}
}

// TestP7_3Back reads what was quoted.
func TestP7_3Back(t *testing.T) {
	r := rand.New(rand.NewPCG(7, 3))
	for range 3000 {
		s := anyText(r) + anyText(r)
		reads(t, json.Quote(s), str(s))
		prints(t, str(s), json.Quote(s))
	}
}
