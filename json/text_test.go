package json_test

import (
	"strconv"
	"strings"
	"testing"

	"exchequer/api"
	"exchequer/json"
)

// TestP7_1Escapes reads each byte behind a backslash.
func TestP7_1Escapes(t *testing.T) {
	short := map[byte]string{'"': `"`, '\\': `\`, '/': "/", 'b': "\x08", 'f': "\x0c", 'n': "\x0a", 'r': "\x0d", 't': "\x09"}
	for i := range 256 {
		c := string([]byte{byte(i)})
		if want, is := short[byte(i)]; is {
			reads(t, `"\`+c+`"`, str(want))
			reads(t, `"é\`+c+`\`+c+`x"`, str("é"+want+want+"x"))
			reads(t, `{"\`+c+`":1}`, json.Value{Kind: json.Object, Names: []string{want}, List: []json.Value{num("1")}})
			ends(t, `"a\`+c)
			continue
		}
		if c == "u" {
			continue
		}
		for _, behind := range []string{"", `"`, `"]`, "n", "0041", "\xff"} {
			fails(t, `"\`+c+behind, api.ErrSyntax, 1)
			fails(t, `["é","ab\`+c+behind, api.ErrSyntax, 9)
			fails(t, `{"\\\`+c+behind, api.ErrSyntax, 4)
		}
	}
	ends(t, `"\`)
	ends(t, `"\\\`)
	ends(t, `{"a\`)
}

// TestP7_1Units reads escapes of four digits, and with each byte in the place of each digit.
func TestP7_1Units(t *testing.T) {
	for s, want := range map[string]string{
		`\u0041`: "A", `\u0000`: "\x00", `\u001f`: "\x1f", `\u007F`: "\x7f", `\u0080`: "\xc2\x80", `\u07ff`: "\xdf\xbf", `\u0800`: "\xe0\xa0\x80", `\uD7FF`: "\xed\x9f\xbf", `\uE000`: "\xee\x80\x80", `\uFfFd`: "\xef\xbf\xbd", `\uffff`: "\xef\xbf\xbf",
		`\u20ac\u20AC`: "€€", `\u00e90`: "é0", `\u0022`: `"`, `\u005C`: `\`, `\u005cu0041`: `\u0041`, `\\u0041`: `\u0041`, `\u0030041`: "0041", `\uabcd\uefAB\uCDEF`: "\uabcd\uefab\ucdef", `\u1234\u5678\u9a0B`: "\u1234\u5678\u9a0b",
	} {
		reads(t, `"`+s+`"`, str(want))
		reads(t, `["x`+s+`y"]`, arr(str("x"+want+"y")))
	}
	for i := range 4 {
		for c := range 256 {
			s := `"ab\u` + "0041"[:i] + string([]byte{byte(c)})
			if strings.IndexByte("0123456789abcdefABCDEF", byte(c)) < 0 {
				for _, behind := range []string{"", "0041"[i:], "0041"[i:] + `"`, "\xff"} {
					fails(t, s+behind, api.ErrSyntax, 3)
				}
				continue
			}
			ends(t, s)
			want, err := strconv.ParseUint("0041"[:i]+string([]byte{byte(c)})+"0041"[i+1:], 16, 16)
			if err != nil {
				t.Fatal(err)
			}
			if want < 0xD800 || want > 0xDFFF {
				reads(t, s+"0041"[i+1:]+`"`, str("ab"+string(rune(want))))
			}
		}
	}
	fails(t, `"\U0041"`, api.ErrSyntax, 1)
	fails(t, `"\u+041"`, api.ErrSyntax, 1)
	fails(t, `"\u"0041"`, api.ErrSyntax, 1)
	fails(t, `"\u004"`, api.ErrSyntax, 1)
}

// TestP7_1Pairs reads a high surrogate and a low one behind it, at their bounds and in small and great digits.
func TestP7_1Pairs(t *testing.T) {
	for s, want := range map[string]string{
		`\ud800\udc00`: "\U00010000", `\uD800\uDFFF`: "\U000103FF", `\udbff\uDC00`: "\U0010FC00", `\uDBFF\udfff`: "\U0010FFFF", `\ud83d\uDE00`: "😀", `\ud801\udc01`: "\U00010401", `\uDada\uDEde`: "\U000C6AdE",
		`\ud83d\ude00\ud83d\ude01`: "😀😁", `a\ud83d\ude00\u0041`: "a😀A", `\ud7ff\ue000`: "\ud7ff\ue000",
	} {
		reads(t, `"`+s+`"`, str(want))
		reads(t, `{"`+s+`":"`+s+`"}`, json.Value{Kind: json.Object, Names: []string{want}, List: []json.Value{str(want)}})
	}
	for high := 0xD7FE; high <= 0xE001; high++ {
		for _, low := range []int{0xDBFF, 0xDC00, 0xDE12, 0xDFFF, 0xE000} {
			s := `\u` + strconv.FormatInt(int64(high), 16) + `\u` + strconv.FormatInt(int64(low), 16)
			isHigh, isLow := high >= 0xD800 && high < 0xDC00, low >= 0xDC00 && low < 0xE000
			switch {
			case isHigh && isLow:
				reads(t, `"`+s+`"`, str(string(rune(0x10000+(high-0xD800)*0x400+low-0xDC00))))
			case high >= 0xD800 && high < 0xE000:
				fails(t, `"a`+s+`"`, api.ErrSyntax, 2)
			case isLow || low == 0xDBFF:
				fails(t, `"a`+s+`"`, api.ErrSyntax, 8)
			default:
				reads(t, `"`+s+`"`, str(string(rune(high))+string(rune(low))))
			}
		}
	}
}

// TestP7_1Alone reads surrogates that are alone.
func TestP7_1Alone(t *testing.T) {
	for _, behind := range []string{`"`, `x`, ` `, `\"`, `\n"`, `\\`, `\x`, `/u`, `u`, `\U`, `\u0041"`, `\ud7ff`, `\ud800\udc00"`, `\uDBFF`, `\ue000`, `\u12g4"`, `\ug`, `\udcg0`, `\u"`, "\n", "\xff", "\xed\xb0\x80", "é", `\u0041`} {
		for _, high := range []string{`\ud800`, `\uDBFF`, `\uD83d`} {
			fails(t, `"`+high+behind, api.ErrSyntax, 1)
			fails(t, `{"b":"a\\`+high+behind, api.ErrSyntax, 9)
			fails(t, `{"`+high+behind, api.ErrSyntax, 2)
		}
		for _, low := range []string{`\udc00`, `\uDFFF`, `\ude00`} {
			fails(t, `"`+low+behind, api.ErrSyntax, 1)
			fails(t, `"\ud800\udc00`+low+behind, api.ErrSyntax, 13)
		}
	}
	fails(t, `"\udc00`, api.ErrSyntax, 1)
	fails(t, `"\udc00\ud800"`, api.ErrSyntax, 1)
	fails(t, `"\u0041\ud800"`, api.ErrSyntax, 7)
	// Wherever the end comes before the escape behind is whole, it is the end that is told.
	for _, s := range []string{`"\ud800`, `"\ud800\`, `"\ud800\u`, `"\ud800\ud`, `"\ud800\udc0`, `"\ud800\udc00`, `"\ud800\u0`, `"\ud800\u004`, `"\udc0`, `"\ud`} {
		ends(t, s)
		ends(t, `{"a":`+s)
		ends(t, `{`+s)
	}
}

// TestP7_1Controls reads the bytes below 20 (hex) in a string, and those that are next to them.
func TestP7_1Controls(t *testing.T) {
	for c := range 0x20 {
		for _, behind := range []string{"", `"`, "\xff", `\x`, "n"} {
			s := string([]byte{byte(c)}) + behind
			fails(t, `"`+s, api.ErrSyntax, 1)
			fails(t, `["é\n`+s, api.ErrSyntax, 6)
			fails(t, `{"a`+s, api.ErrSyntax, 3)
		}
	}
	for c := 0x20; c < 0x80; c++ {
		if c != '"' && c != '\\' {
			reads(t, `"a`+string(rune(c))+`"`, str("a"+string(rune(c))))
			ends(t, `"a`+string(rune(c)))
		}
	}
}

// bounds are a byte's least and greatest value.
type bounds struct{ least, most byte }

// tails are the bytes that must follow a sequence's first one by RFC 3629; false if no sequence begins with it.
func tails(first byte) ([]bounds, bool) {
	tail := bounds{0x80, 0xBF}
	switch {
	case first < 0x80:
		return nil, true
	case first >= 0xC2 && first <= 0xDF:
		return []bounds{tail}, true
	case first == 0xE0:
		return []bounds{{0xA0, 0xBF}, tail}, true
	case first == 0xED:
		return []bounds{{0x80, 0x9F}, tail}, true
	case first >= 0xE1 && first <= 0xEF:
		return []bounds{tail, tail}, true
	case first == 0xF0:
		return []bounds{{0x90, 0xBF}, tail, tail}, true
	case first == 0xF4:
		return []bounds{{0x80, 0x8F}, tail, tail}, true
	case first >= 0xF1 && first <= 0xF3:
		return []bounds{tail, tail, tail}, true
	}
	return nil, false
}

// follow holds what is read of a sequence that goes on with each byte against what must follow. Behind the second byte just some bytes that may stand are gone on with.
func follow(t *testing.T, sequence string, rest []bounds) {
	t.Helper()
	if len(rest) == 0 {
		reads(t, `"`+sequence+`"`, str(sequence))
		reads(t, `["é`+sequence+sequence+`\n"]`, arr(str("é"+sequence+sequence+"\n")))
		ends(t, `"`+sequence)
		return
	}
	ends(t, `"`+sequence)
	ends(t, `{"é`+sequence)
	for c := range 256 {
		s := sequence + string([]byte{byte(c)})
		if byte(c) < rest[0].least || byte(c) > rest[0].most {
			fails(t, `"`+s, api.ErrSyntax, 1)
			fails(t, `"`+s+`"`, api.ErrSyntax, 1)
			fails(t, `{"é`+s+"\x80\x80", api.ErrSyntax, 4)
			refuses(t, tell(s), str(s), api.ErrForm)
		} else if len(sequence) == 1 || c%50 == 0 || byte(c) == rest[0].least || byte(c) == rest[0].most {
			follow(t, s, rest[1:])
		}
	}
}

// TestP7_1Sequences reads the sequences of RFC 3629, and at each of their bytes what is none: overlong ones, surrogates, what is beyond 10FFFF.
func TestP7_1Sequences(t *testing.T) {
	for c := 0x80; c < 256; c++ {
		s := string([]byte{byte(c)})
		rest, is := tails(byte(c))
		if is {
			follow(t, s, rest)
			continue
		}
		for _, behind := range []string{"", `"`, "\x80\x80\x80\"", "a", `\`} {
			fails(t, `"`+s+behind, api.ErrSyntax, 1)
			fails(t, `"a\\é`+s+behind, api.ErrSyntax, 6)
		}
	}
	for _, s := range []string{"\xc0\x80", "\xc1\xbf", "\xe0\x80\x80", "\xe0\x9f\xbf", "\xf0\x80\x80\x80", "\xf0\x8f\xbf\xbf", "\xed\xa0\x80", "\xed\xbf\xbf", "\xf4\x90\x80\x80", "\xf5\x80\x80\x80", "\xf8\x88\x80\x80\x80", "\xff\xfe", "\x80", "\xbf"} {
		fails(t, `"`+s+`"`, api.ErrSyntax, 1)
		fails(t, `{"a":["`+s, api.ErrSyntax, 7)
		fails(t, `{"`+s+`":1}`, api.ErrSyntax, 2)
		fails(t, s, api.ErrSyntax, 0)
	}
	reads(t, "\"\ufffd\ufeff\"", str("\ufffd\ufeff"))
}
