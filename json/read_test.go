package json_test

import (
	stdjson "encoding/json"
	"errors"
	"math/rand/v2"
	"strings"
	"testing"

	"exchequer/api"
	"exchequer/json"
)

// TestP7_1Examples is the chapter's examples.
func TestP7_1Examples(t *testing.T) {
	reads(t, ` {"b" : [1, 2.50e1], "a":"\u0041\/"} `, obj("b a", arr(num("1"), num("2.50e1")), str("A/")))
	fails(t, "", api.ErrSyntax, 0)
	fails(t, `[1,]`, api.ErrSyntax, 3)
	fails(t, `01`, api.ErrSyntax, 1)
	fails(t, `"\ud800"`, api.ErrSyntax, 1)
	fails(t, `{"a":1,"a":2}`, api.ErrTwice, 7)
	fails(t, `1 2`, api.ErrSyntax, 2)
}

// TestP7_1Values reads values of each kind.
func TestP7_1Values(t *testing.T) {
	for s, want := range map[string]json.Value{
		"null": {}, "false": {Kind: json.False}, "true": {Kind: json.True}, "0": num("0"), "-0": num("-0"), "-1.50E+007": num("-1.50E+007"), `""`: str(""), `"a"`: str("a"), `"null"`: str("null"), `"[1]"`: str("[1]"),
		"[]": arr(), "{}": {Kind: json.Object}, "[null]": arr(json.Value{}), "[[],[[]],{}]": arr(arr(), arr(arr()), json.Value{Kind: json.Object}), "[1,1,1]": arr(num("1"), num("1"), num("1")),
		`{"":1}`: obj("", num("1")), `{"b":1,"a":2,"c":3,"B":4}`: obj("b a c B", num("1"), num("2"), num("3"), num("4")), `{"a":{"a":{"a":true}}}`: obj("a", obj("a", obj("a", json.Value{Kind: json.True}))),
		`[{"a":1},{"a":1}]`: arr(obj("a", num("1")), obj("a", num("1"))), `{"a":null,"aa":"a","A":[]}`: obj("a aa A", json.Value{}, str("a"), arr()), `{"a":[{"b":[]}]}`: obj("a", arr(obj("b", arr()))),
	} {
		reads(t, s, want)
	}
	if v, place, e := json.Parse(nil); place != 0 || e != api.ErrSyntax || !equal(v, json.Value{}) {
		t.Errorf("nil: %d at %d", e, place)
	}
}

// contexts are texts up to a place, and the bytes that may stand there.
func contexts() map[string]string {
	const blank, digit = " \t\n\r", "0123456789"
	const begin = blank + `"[{-tfn` + digit
	m := map[string]string{
		"": begin, " \r": begin, "[": begin + "]", "[ ": begin + "]", "[1,": begin, "[1, ": begin, "[[],": begin, `{"a":`: begin, `{"a": `: begin, `{"a":[`: begin + "]",
		"{": blank + `"}`, "{ ": blank + `"}`, `{"a":1,`: blank + `"`, `{"a":1, `: blank + `"`, `{"a"`: blank + ":", `{"a" `: blank + ":", `{"":{}`: blank + ",}", `{"a":1 `: blank + ",}", `{"a":"" `: blank + ",}",
		"[[]": blank + ",]", "[1 ": blank + ",]", `["a"`: blank + ",]", "[null": blank + ",]", "[true ": blank + ",]", `[{"a":1}`: blank + ",]",
		"-": digit, "[-": digit, "1.": digit, "1.5e+": digit, "0e-": digit, "1e": digit + "+-", "-0.0E": digit + "+-",
		"0": blank + ".eE", "-0": blank + ".eE", "10": blank + ".eE" + digit, "1.0": blank + "eE" + digit, "1e0": blank + digit, "1e+7": blank + digit, "[0": blank + ".eE,]", `{"a":0`: blank + ".eE,}", "[-7": blank + ".eE,]" + digit,
		"1 ": blank, "null": blank, "true": blank, "false": blank, `""`: blank, "[]": blank, "{} ": blank, `{"a":1}`: blank,
	}
	for _, word := range []string{"null", "true", "false"} {
		for i := 1; i < len(word); i++ {
			m[word[:i]] = word[i : i+1]
			m["["+word[:i]] = word[i : i+1]
			m[`{"a":`+word[:i]] = word[i : i+1]
		}
	}
	return m
}

// TestP7_1Bytes reads each byte wherever it may stand and wherever it may not.
func TestP7_1Bytes(t *testing.T) {
	for ahead, may := range contexts() {
		for c := range 256 {
			s := ahead + string([]byte{byte(c)})
			if strings.IndexByte(may, byte(c)) < 0 {
				for _, behind := range []string{"", " ", "]", "}", "1", `"`, ":1}", "\xff"} {
					fails(t, s+behind, api.ErrSyntax, len(ahead))
				}
				continue
			}
			if _, place, e := json.Parse([]byte(s)); e != api.OK && (e != api.ErrSyntax || place != len(s)) {
				t.Errorf("%s: %d at %d", tell(s), e, place)
			}
		}
	}
}

// TestP7_1Ends reads texts that end too early, wherever that is.
func TestP7_1Ends(t *testing.T) {
	for _, s := range []string{
		"[null, true ,false , -0.5e+1 , 1 , 1E7 ]", `{"a" : {"b\u00e9\n":[ ] , "c" : { } } , "" : ""}`, `[[[{"a":[1,[]]}]]]`, `"a\"\\\/\b\f\n\r\t\u0041\ud83d\ude00"`, "\"\x7f\u00e9\u20ac\U0001F600\"", " \t\n\r[]",
	} {
		parse(t, s)
		for i := range len(s) {
			ends(t, s[:i])
		}
	}
	for _, s := range []string{"-", "1.", "0.", "1e", "1E", "1e+", "1.5e-", "-0.", "n", "nul", "t", "tru", "f", "fals"} {
		ends(t, s)
		ends(t, "["+s)
		fails(t, s+" ", api.ErrSyntax, len(s))
		fails(t, "["+s+"]", api.ErrSyntax, len(s)+1)
	}
}

// TestP7_1Text reads texts of as many bytes as they may have, and of more.
func TestP7_1Text(t *testing.T) {
	blanks := strings.Repeat(" ", api.MaxText-1)
	reads(t, blanks+"1", num("1"))
	reads(t, "1"+blanks, num("1"))
	a := strings.Repeat("a", api.MaxText-2)
	reads(t, `"`+a+`"`, str(a))
	fails(t, `"`+a+`a`, api.ErrSyntax, api.MaxText)
	fails(t, blanks+" ", api.ErrSyntax, api.MaxText)
	fails(t, blanks+"]", api.ErrSyntax, api.MaxText-1)
	for _, s := range []string{blanks + " 1", "1 " + blanks, `"` + a + `a"`, blanks + "  ", "x" + blanks + " ", strings.Repeat("[", api.MaxText+1), strings.Repeat("1", api.MaxText+1), strings.Repeat("\xff", 1<<20), strings.Repeat("\x00", api.MaxText+1)} {
		fails(t, s, api.ErrLong, 0)
	}
}

// TestP7_1Blanks reads blanks wherever they may stand, and what is none.
func TestP7_1Blanks(t *testing.T) {
	parts := []string{"", "{", `"a"`, ":", "[", "1", ",", "true", ",", `""`, "]", ",", `"b"`, ":", "{", "}", "}", ""}
	want := obj("a b", arr(num("1"), json.Value{Kind: json.True}, str("")), json.Value{Kind: json.Object})
	for i := range parts {
		for _, blank := range []string{" ", "\t", "\n", "\r", " \t\n\r \r\n"} {
			reads(t, strings.Join(parts[:i], "")+blank+strings.Join(parts[i:], ""), want)
			reads(t, strings.Join(parts, blank), want)
		}
		for _, no := range []string{"\v", "\f", "\x00", "\x1f", "\x7f", "\u00a0", "\u0085", "\u2028", "\ufeff", "/**/", "//\n", "#", "\b"} {
			ahead := strings.Join(parts[:i], "")
			fails(t, ahead+no+strings.Join(parts[i:], ""), api.ErrSyntax, len(ahead))
		}
	}
}

// TestP7_1Literals reads literals of as many bytes as they may have, and of one more.
func TestP7_1Literals(t *testing.T) {
	nines := strings.Repeat("9", 50)
	for _, s := range []string{nines[:40], "-" + nines[:39], "0." + nines[:38], "-0.0" + nines[:36], nines[:36] + ".5e7", "1e" + nines[:38], "-1E+" + nines[:36], "1e-" + strings.Repeat("0", 37)} {
		reads(t, s, num(s))
		reads(t, " ["+s+",1]", arr(num(s), num("1")))
		reads(t, `{"a":`+s+`}`, obj("a", num(s)))
		fails(t, s+"0", api.ErrLong, 0)
		fails(t, " \n"+s+nines, api.ErrLong, 2)
		fails(t, "[1, "+s+"1,x]", api.ErrLong, 4)
		fails(t, `{"a":`+s+`5`, api.ErrLong, 5)
		fails(t, s+"0 x", api.ErrLong, 0)
		fails(t, s+"0x", api.ErrLong, 0)
	}
	for s, place := range map[string]int{
		nines + ".": 51, nines + ".x": 51, nines + ".e5": 51, nines + "e": 51, nines + "e+": 52, nines + "E-x": 52, "-" + nines + "e]": 52, "1." + nines + "e": 53, "1." + nines + "E+ 5": 54, "1e" + nines + ".5e": 0, nines + "..": 51, nines + "-": 0, nines + "x": 0, nines + "e5.": 0, nines + "e5e": 0,
	} {
		want := api.Errno(api.ErrSyntax)
		if place == 0 {
			want = api.ErrLong
		}
		fails(t, s, want, place)
	}
	fails(t, "0"+nines, api.ErrSyntax, 1)
	fails(t, "-0"+nines, api.ErrSyntax, 2)
	fails(t, "["+nines[:41]+".]", api.ErrSyntax, 43)
	fails(t, "x"+nines, api.ErrSyntax, 0)
	fails(t, "+"+nines, api.ErrSyntax, 0)
	fails(t, "-x"+nines, api.ErrSyntax, 1)
}

// TestP7_1Deep reads arrays and objects within as many others as they may be, and within one more.
func TestP7_1Deep(t *testing.T) {
	open, shut := strings.Repeat("[", 31), strings.Repeat("]", 31)
	parse(t, open+"[]"+shut)
	parse(t, open+"{}"+shut)
	parse(t, open+`{"a":1,"b":"","c":null}`+shut)
	parse(t, open+"[1,-1,true]"+shut)
	parse(t, strings.Repeat(`{"a":`, 31)+"{}"+strings.Repeat("}", 31))
	parse(t, "["+open+shut+","+open+shut+","+open+shut+"]")
	for _, c := range []string{"[", "{"} {
		for _, behind := range []string{"", "]" + shut, "}", "x", "\xff"} {
			fails(t, open+"["+c+behind, api.ErrDeep, 32)
			fails(t, open+"[ \n"+c+behind, api.ErrDeep, 34)
			fails(t, open+"[1,"+c+behind, api.ErrDeep, 34)
			fails(t, open+`{"a":`+c+behind, api.ErrDeep, 36)
			fails(t, strings.Repeat(`{"a":`, 32)+c+behind, api.ErrDeep, 160)
		}
	}
	fails(t, open+"[x[", api.ErrSyntax, 32)
	fails(t, open+`{"a"[`, api.ErrSyntax, 35)
	fails(t, strings.Repeat("[", api.MaxText), api.ErrDeep, 32)
	fails(t, strings.Repeat(`[{"a":`, 1000), api.ErrDeep, 16*6)
	ends(t, open+"[")
}

// many is the beginning of an object of so many members, with a comma behind the last.
func many(n int) string { return `{"` + strings.Join(numbered(n), `":1,"`) + `":1,` }

// TestP7_1Many reads as many elements and members as there may be, and one more.
func TestP7_1Many(t *testing.T) {
	full := "[" + strings.Repeat("1,", 999) + "1]"
	if v := parse(t, full); len(v.List) != 1000 {
		t.Errorf("%d elements", len(v.List))
	}
	if v := parse(t, many(999)+`"x":[]}`); len(v.List) != 1000 || len(v.Names) != 1000 {
		t.Errorf("%d members", len(v.List))
	}
	parse(t, "["+full+`,{"a":`+full+`},`+full+"]")
	ones := "[" + strings.Repeat("1,", 1000)
	for _, c := range []string{"1", "-", "0", "n", "t", "f", `"`, "[", "{", "[]]", `"\x`, "nul]", "-x", "1.]", strings.Repeat("1", 50) + ".", "\"\xff"} {
		fails(t, ones+c, api.ErrMany, 2001)
		fails(t, ones+" \t"+c+",", api.ErrMany, 2003)
		fails(t, "[0,"+ones+c, api.ErrMany, 2004)
	}
	for _, c := range []string{"]", ",", "}", "x", ":", "+", ".", "\xff", "N"} {
		fails(t, ones+c, api.ErrSyntax, 2001)
		fails(t, ones+" "+c, api.ErrSyntax, 2002)
	}
	ends(t, ones)
	ends(t, ones+" ")
}

// TestP7_1ManyMembers reads one member more than there may be.
func TestP7_1ManyMembers(t *testing.T) {
	s := many(1000)
	for _, c := range []string{`"x":1}`, `"`, `"n0":1}`, `"n0`, `"\x`, `"x"]`, "\"\xff"} {
		fails(t, s+c, api.ErrMany, len(s))
		fails(t, s+"\n "+c, api.ErrMany, len(s)+2)
		fails(t, `{"a":`+s+c, api.ErrMany, len(s)+5)
	}
	for _, c := range []string{"}", "]", ",", "1", "{", "'", "\xff"} {
		fails(t, s+c, api.ErrSyntax, len(s))
	}
	ends(t, s)
	parse(t, "["+s[:len(s)-1]+"},"+s[:len(s)-1]+"}]")
	fails(t, s[:len(s)-1]+" :", api.ErrSyntax, len(s))
}

// TestP7_1Ties reads values that are beyond several limits where they begin: the one that the chapter names first is told.
func TestP7_1Ties(t *testing.T) {
	ones := "[" + strings.Repeat("1,", 1000)
	fails(t, ones+strings.Repeat("1", 41)+"]", api.ErrLong, 2001)
	fails(t, ones+strings.Repeat("1", 40)+"]", api.ErrMany, 2001)
	fails(t, ones+strings.Repeat("1", 41)+".]", api.ErrMany, 2001)
	open := strings.Repeat("[", 31)
	fails(t, open+ones+"[", api.ErrDeep, 2032)
	fails(t, open+ones+"{", api.ErrDeep, 2032)
	fails(t, open[1:]+ones+"{", api.ErrMany, 2031)
	fails(t, open+ones+`"`, api.ErrMany, 2032)
}

// TestP7_1Twice reads names that stand twice, as soon as they are read.
func TestP7_1Twice(t *testing.T) {
	for s, place := range map[string]int{
		`{"a":1,"a":2}`: 7, `{"a":1,"a"`: 7, `{"a":1,"a"x`: 7, `{"a":1, "a" 1`: 8, `{"a":1,"a":x`: 7, `{"":1,"":2}`: 6, `{"a":1,"b":2,"a":3}`: 13, `{"b":1,"a":2,"a":3}`: 13, `{"a":{"b":1,"b":2}}`: 12, `{"a":{"a":1},"a":2}`: 13, `[{"a":1},{"a":1,"a":1}]`: 16,
		`{"a":1,"\u0061":2}`: 7, `{"\u0061":1,"a":2}`: 12, `{"\n":1,"\u000A":2}`: 8, `{"\/":1,"/":2}`: 8, `{"\u00e9":1,"é":2}`: 12, `{"😀":1,"\ud83d\ude00":2}`: 10, `{"\u0000":1,"\u0000":1}`: 12, "{ \"a\" : 1 ,\n\"a\" : 2 }": 12, `{"a":1,"b":1,"\u0062`: 20,
	} {
		want := api.Errno(api.ErrTwice)
		if place == len(s) {
			want = api.ErrSyntax
		}
		fails(t, s, want, place)
	}
	reads(t, `{"a":1,"A":2,"á":3,"aa":4,"":5}`, obj("a A á aa ", num("1"), num("2"), num("3"), num("4"), num("5")))
	fails(t, `{"a":1,"a\x":2}`, api.ErrSyntax, 9)
	fails(t, `{"a":1,"a`, api.ErrSyntax, 9)
	s := many(999)
	fails(t, s+`"n998":2}`, api.ErrTwice, len(s))
	fails(t, s+`"n0" `, api.ErrTwice, len(s))
}

// oracle is the place of a text's fault as told by another reader, and whether there is one.
func oracle(s string) (int, bool) {
	var any any
	var fault *stdjson.SyntaxError
	if err := stdjson.Unmarshal([]byte(s), &any); !errors.As(err, &fault) {
		return 0, false
	}
	if fault.Error() == "unexpected end of JSON input" {
		return len(s), true
	}
	return int(fault.Offset) - 1, true
}

// TestP7_1Oracle holds short texts of some symbols against what another reader makes of them: all those that have no fault yet, and those that have one in their last symbol.
func TestP7_1Oracle(t *testing.T) {
	for _, symbols := range [][]string{
		{"[", "]", "{", "}", ",", ":", `"a"`, "1", " "},
		{"-", "+", "0", "7", ".", "e", "E", "]", " "},
		{"null", "true", "[", "]", ",", "n", "\n", `"`},
		{`{"a":`, `,"b":`, "}", "[", "]", ",", "0", `"`},
	} {
		var try func(s string, left int)
		try = func(s string, left int) {
			want, faulty := oracle(s)
			_, place, e := json.Parse([]byte(s))
			if e != api.ErrTwice && (place != want || faulty != (e == api.ErrSyntax) || !faulty && e != api.OK) {
				t.Errorf("%s: %d at %d, not at %d", tell(s), e, place, want)
			}
			for _, symbol := range symbols {
				if left > 0 && (!faulty || want == len(s)) {
					try(s+symbol, left-1)
				}
			}
		}
		try("", 7)
	}
}

// TestP7_1First spoils texts: ahead of the first fault's place there is no other, only the end.
func TestP7_1First(t *testing.T) {
	r := rand.New(rand.NewPCG(7, 1))
	told := map[api.Errno]int{}
	const spoilt = "\x00\x1f \",:[]{}\\u09aeE+-.tn\x7f\x80\xc3\xe2\xf0\xff"
	for range 20000 {
		b := []byte(spelled(r, anyValue(r, 3)))
		for range 1 + r.IntN(2) {
			i := r.IntN(len(b))
			b[i] = spoilt[r.IntN(len(spoilt))]
		}
		_, place, e := json.Parse(b)
		told[e]++
		for i := 0; e != api.OK && i <= place; i++ {
			if _, at, f := json.Parse(b[:i]); f != api.OK && (f != api.ErrSyntax || at != i) {
				t.Fatalf("%s: %d at %d, but its first %d bytes: %d at %d", tell(string(b)), e, place, i, f, at)
			}
		}
		if !stdjson.Valid(b) && e == api.OK {
			t.Errorf("%s: no fault", tell(string(b)))
		}
	}
	if told[api.OK] == 0 || told[api.ErrSyntax] == 0 || told[api.ErrTwice] == 0 {
		t.Errorf("%v", told)
	}
}
