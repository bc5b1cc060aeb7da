package json_test

import (
	"math/rand/v2"
	"strings"
	"testing"

	"exchequer/json"
)

// TestP7_6ThereAndBack reads what was printed, which is the same value, and prints what was read, which is the same form from then on.
func TestP7_6ThereAndBack(t *testing.T) {
	r := rand.New(rand.NewPCG(7, 6))
	for range 20000 {
		v := anyValue(r, 4)
		form := print(t, v)
		back := parse(t, form)
		if !json.Same(v, back) || !json.Same(back, v) {
			t.Errorf("%v: %s: %v", v, form, back)
		}
		prints(t, back, form)
		read := parse(t, spelled(r, v))
		again := print(t, read)
		prints(t, parse(t, again), again)
	}
	for _, v := range []json.Value{within(num("1"), 32), arr(nulls(1000)...), {Kind: json.Object, Names: numbered(1000), List: nulls(1000)}, str(strings.Repeat("é\x00", 8000)), num(strings.Repeat("9", 40))} {
		if back := parse(t, print(t, v)); !json.Same(v, back) {
			t.Errorf("%s", tell(print(t, v)))
		}
	}
}

// TestP7_7Blanks prints one form of all texts of a value: blanks, escapes and the order of members change nothing.
func TestP7_7Blanks(t *testing.T) {
	r := rand.New(rand.NewPCG(7, 7))
	for range 5000 {
		v := anyValue(r, 4)
		form := print(t, v)
		for range 4 {
			s := spelled(r, v)
			if got := print(t, parse(t, s)); got != form {
				t.Errorf("%s: %s, not %s", tell(s), got, form)
			}
			if !json.Same(parse(t, s), v) {
				t.Errorf("%s: not the same", tell(s))
			}
		}
	}
	for _, s := range []string{`{"a":1,"b":[2,{"c":3,"d":4}]}`, "\t{\n\"b\" :[ 2 ,{\"d\": 4,\r\"c\":3 } ]\n, \"a\" : 1}\r\n", `{"\u0062":[2,{"d":4,"c":3}],"\u0061":1}`} {
		prints(t, parse(t, s), `{"a":1,"b":[2,{"c":3,"d":4}]}`)
	}
}
