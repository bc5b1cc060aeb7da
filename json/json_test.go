package json_test

import (
	"math"
	"math/big"
	"math/rand/v2"
	"regexp"
	"slices"
	"strconv"
	"strings"
	"testing"

	"exchequer/api"
	"exchequer/json"
)

// ints holds what Int makes of a value.
func ints(t *testing.T, v json.Value, want int, e api.Errno) {
	t.Helper()
	if n, f := json.Int(v); n != want || f != e {
		t.Errorf("%v: %d, %d, not %d, %d", v, n, f, want, e)
	}
}

// TestP7_4Examples is the chapter's examples.
func TestP7_4Examples(t *testing.T) {
	ints(t, parse(t, `-0`), 0, api.ErrForm)
	ints(t, parse(t, `1.0`), 0, api.ErrForm)
	ints(t, parse(t, `12`), 12, api.OK)
	ints(t, parse(t, `"1"`), 0, api.ErrType)
}

// TestP7_4Int makes ints of Numbers, at their bounds and beyond, and of what is none.
func TestP7_4Int(t *testing.T) {
	for _, n := range []int{0, 1, -1, 9, 10, -10, 100, 1<<32 + 1, math.MaxInt, math.MinInt, math.MaxInt - 1, math.MinInt + 1} {
		ints(t, num(strconv.Itoa(n)), n, api.OK)
		ints(t, json.OfInt(n), n, api.OK)
	}
	for _, s := range []string{"9223372036854775808", "-9223372036854775809", "10000000000000000000", "18446744073709551616", "18446744073709551617", "-18446744073709551615", strings.Repeat("9", 40), "-" + strings.Repeat("9", 39), "1" + strings.Repeat("0", 1<<20)} {
		ints(t, num(s), 0, api.ErrRange)
	}
	for _, s := range []string{"", "-", "+1", "-0", "00", "01", "-01", "1.0", "1e2", "1E0", "0.0", "0e0", "-0.0", " 1", "1 ", "1x", "0x1", "1_000", "--1", "٣", "\xff", "1\x00", strings.Repeat("9", 40) + ".", "0" + strings.Repeat("9", 30), "-0" + strings.Repeat("9", 30)} {
		ints(t, num(s), 0, api.ErrForm)
	}
	for _, kind := range []int{json.Null, json.False, json.True, json.String, json.Array, json.Object, -1, 7} {
		for _, s := range []string{"1", "x", strings.Repeat("9", 30)} {
			ints(t, json.Value{Kind: kind, Text: s}, 0, api.ErrType)
		}
	}
}

// TestP7_4Forms holds what Int makes of each short text of some bytes against a pattern of the rule P0.6.
func TestP7_4Forms(t *testing.T) {
	whole := regexp.MustCompile(`^(0|-?[1-9][0-9]*)$`)
	var try func(s string)
	try = func(s string) {
		if n, is := new(big.Int).SetString(s, 10); is && whole.MatchString(s) {
			ints(t, num(s), int(n.Int64()), api.OK)
		} else {
			ints(t, num(s), 0, api.ErrForm)
		}
		for _, c := range "-+0195.e" {
			if len(s) < 5 {
				try(s + string(c))
			}
		}
	}
	try("")
}

// TestP7_4Of makes values of ints and of texts, be they such as may be printed or not.
func TestP7_4Of(t *testing.T) {
	for n, want := range map[int]string{0: "0", 7: "7", -12: "-12", math.MaxInt: "9223372036854775807", math.MinInt: "-9223372036854775808"} {
		if v := json.OfInt(n); !equal(v, num(want)) {
			t.Errorf("%d: %v", n, v)
		}
	}
	for _, s := range []string{"", "a", "12", "null", "\x00\"", "é😀", "\xff", strings.Repeat("x", 1<<20)} {
		if v := json.OfText(s); !equal(v, str(s)) {
			t.Errorf("%s: %v", tell(s), v)
		}
	}
}

// TestP7_4Get finds members, the first of a name, and finds none where there is none.
func TestP7_4Get(t *testing.T) {
	one, two, three := num("1"), arr(obj("x", str("y"))), json.Value{}
	v := obj("b a  a é", one, two, three, one, str("x"))
	for name, want := range map[string]json.Value{"b": one, "a": two, "": three, "é": str("x")} {
		if x, is := json.Get(v, name); !is || !equal(x, want) {
			t.Errorf("%q: %v, %t", name, x, is)
		}
	}
	none := func(v json.Value, name string) {
		t.Helper()
		if x, is := json.Get(v, name); is || !equal(x, json.Value{}) {
			t.Errorf("%v: %q: %v, %t", v, name, x, is)
		}
	}
	for _, name := range []string{"c", "A", "B", "aa", "x", " ", "\xc3", "b a"} {
		none(v, name)
	}
	for kind := -1; kind <= 7; kind++ {
		if kind != json.Object {
			none(json.Value{Kind: kind, Text: "a", List: []json.Value{one}, Names: []string{"a"}}, "a")
		}
	}
	none(json.Value{Kind: json.Object}, "")
	none(json.Value{Kind: json.Object, Text: "a", List: []json.Value{one}}, "a")
	none(obj("a b", one), "b")
	none(obj("b"), "b")
	if x, is := json.Get(obj("a b", one, two, three), "b"); !is || !equal(x, two) {
		t.Errorf("%v, %t", x, is)
	}
	if x, is := json.Get(obj("\xff", json.Value{Kind: 9, Text: "t"}), "\xff"); !is || x.Kind != 9 {
		t.Errorf("%v, %t", x, is)
	}
}

// same holds two values to be the same or not, from either side.
func same(t *testing.T, a, b json.Value, want bool) {
	t.Helper()
	if json.Same(a, b) != want || json.Same(b, a) != want || !json.Same(a, a) || !json.Same(b, b) {
		t.Errorf("%v and %v: not %t", a, b, want)
	}
}

// TestP7_4Same holds values of each kind against each other.
func TestP7_4Same(t *testing.T) {
	one, two := num("1"), num("2")
	l := []json.Value{
		{}, {Kind: json.False}, {Kind: json.True}, {Kind: 7}, {Kind: -1}, {Kind: 9}, one, two, num("1.0"), num(""), str(""), str("1"), str("\xff"), str("a"), str("A"), arr(), arr(one), arr(one, one), arr(one, two), arr(two, one), arr(arr()), arr(arr(one)),
		{Kind: json.Object}, obj("a", one), obj("a", two), obj("b", one), obj("", one), obj("a b", one, two), obj("a b", two, one), obj("a a", one, two), obj("a a", two, one), obj("a a", one, one), obj("a b", one, one), obj("a a b", one, one, one), obj("a b b", one, one, one), obj("a", obj("a", one)), obj("a", arr(one)), obj("a"), obj("a b"), obj("a b c", one), {Kind: json.Object, List: []json.Value{one}}, obj("a b", one),
	}
	for i, a := range l {
		for j, b := range l {
			same(t, a, b, i == j)
		}
	}
	same(t, obj("a b c", one, two, arr()), obj("c a b", arr(), one, two), true)
	same(t, obj("a", obj("x y", one, two)), obj("a", obj("y x", two, one)), true)
	same(t, arr(obj("x y", one, two), one), arr(obj("y x", two, one), one), true)
	same(t, obj("a b a", one, two, two), obj("b a a", two, one, two), true)
	same(t, obj("a b a", one, two, two), obj("b a a", two, two, one), false)
	same(t, obj("a b a b", one, one, two, two), obj("b b a a", one, two, one, two), true)
	same(t, obj("a a b", one, one, one), obj("a b b", one, one, one), false)
}

// TestP7_4SameTwice holds Objects of many members of two names against each other: however many there are, it is the k-th of a name with the k-th.
func TestP7_4SameTwice(t *testing.T) {
	a, b := json.Value{Kind: json.Object}, json.Value{Kind: json.Object}
	for i := range 200 {
		a.Names, a.List = append(a.Names, "ab"[i%2:][:1]), append(a.List, json.OfInt(i/2))
		b.Names, b.List = append(b.Names, "ab"[i/100:][:1]), append(b.List, json.OfInt(i%100))
	}
	same(t, a, b, true)
	b.List[0], b.List[1] = b.List[1], b.List[0]
	same(t, a, b, false)
}

// TestP7_4Fields holds values against each other that have fields which their kinds do not name, and Objects whose lists are not as long.
func TestP7_4Fields(t *testing.T) {
	one, two, three := num("1"), num("2"), num("3")
	with := func(v json.Value, text string, list []json.Value, names ...string) json.Value {
		if v.Kind != json.Number && v.Kind != json.String {
			v.Text = text
		}
		if v.Kind != json.Array && v.Kind != json.Object {
			v.List = list
		}
		if v.Kind != json.Object {
			v.Names = names
		}
		return v
	}
	for _, v := range []json.Value{{}, {Kind: json.False}, {Kind: json.True}, {Kind: 7}, {Kind: -5}, one, str("a"), arr(), arr(one, two), {Kind: json.Object}, obj("a b", one, two), obj("a b c", one), obj("a", one, two)} {
		same(t, with(v, "x", nulls(1), "n"), with(v, "y", nil), true)
		same(t, arr(with(v, "", nulls(2))), arr(with(v, "y", nulls(3), "a", "b")), true)
	}
	same(t, obj("a b", one), obj("a c", one), true)
	same(t, obj("a b", one), obj("b a", one), false)
	same(t, obj("a b x", one, two), obj("b a y", two, one), true)
	same(t, obj("a b x", one, two), obj("b y a", two, one), false)
	same(t, obj("a", one, two), obj("a", one, three), true)
	same(t, obj("a", one, two), obj("a", two, one), false)
	same(t, obj("a", one, two), obj("a", one), false)
	same(t, obj("a b", one), obj("a", one), false)
	same(t, obj("a b c", one, two), obj("a b", one, two), false)
	same(t, obj("a"), obj("b"), true)
	same(t, json.Value{Kind: json.Object, List: []json.Value{one}}, json.Value{Kind: json.Object, List: []json.Value{two}}, true)
}

// byNames is an Object's members' values by their names, each name's in order.
func byNames(v json.Value) map[string][]json.Value {
	m := map[string][]json.Value{}
	for i := range min(len(v.Names), len(v.List)) {
		m[v.Names[i]] = append(m[v.Names[i]], v.List[i])
	}
	return m
}

// alike is Same, told by another way than the package's own.
func alike(a, b json.Value) bool {
	if a.Kind != b.Kind {
		return false
	}
	switch a.Kind {
	case json.Number, json.String:
		return a.Text == b.Text
	case json.Array:
		return slices.EqualFunc(a.List, b.List, alike)
	case json.Object:
		left, right := byNames(a), byNames(b)
		for name, l := range left {
			if !slices.EqualFunc(l, right[name], alike) {
				return false
			}
		}
		return len(left) == len(right) && len(a.List) == len(b.List) && len(a.Names) == len(b.Names)
	}
	return true
}

// anySmall is a value out of few, so that two of them are often the same.
func anySmall(r *rand.Rand, depth int) json.Value {
	v := json.Value{Kind: []int{json.Number, json.Object, json.Object, json.Array, 8}[r.IntN(5)], Text: "12"[r.IntN(2):][:1]}
	for range r.IntN(4) {
		if depth > 0 {
			v.List = append(v.List, anySmall(r, depth-1))
			v.Names = append(v.Names, "ab"[r.IntN(2):][:1])
		}
	}
	if len(v.List) > 1 && r.IntN(5) == 0 {
		v.Names = v.Names[1:]
	}
	return v
}

// shuffled is a value whose members stand in another order; such of the same name stay in theirs.
func shuffled(r *rand.Rand, v json.Value) json.Value {
	w := json.Value{Kind: v.Kind, Text: v.Text, Names: slices.Clone(v.Names)}
	for _, x := range v.List {
		w.List = append(w.List, shuffled(r, x))
	}
	for range 5 * (len(w.Names) - 1) {
		i := r.IntN(len(w.Names) - 1)
		if v.Kind == json.Object && len(w.Names) == len(w.List) && w.Names[i] != w.Names[i+1] {
			w.Names[i], w.Names[i+1] = w.Names[i+1], w.Names[i]
			w.List[i], w.List[i+1] = w.List[i+1], w.List[i]
		}
	}
	return w
}

// TestP7_4SameModel holds what Same says of any values against the model.
func TestP7_4SameModel(t *testing.T) {
	r := rand.New(rand.NewPCG(7, 4))
	told := map[bool]int{}
	for range 100000 {
		a, b := anySmall(r, 1), anySmall(r, 1)
		same(t, a, b, alike(a, b))
		told[alike(a, b)]++
		a = anySmall(r, 3)
		same(t, a, shuffled(r, a), true)
	}
	if told[true] < 1000 || told[false] < 1000 {
		t.Errorf("%v", told)
	}
}
