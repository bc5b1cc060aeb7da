package keys_test

import (
	"fmt"
	"math"
	"math/rand/v2"
	"slices"
	"strconv"
	"strings"
	"testing"

	"exchequer/api"
	"exchequer/keys"
)

// parts is a list of ints and texts.
func parts(l ...any) []keys.Part {
	var out []keys.Part
	for _, x := range l {
		switch v := x.(type) {
		case int:
			out = append(out, keys.Part{Kind: 1, N: v})
		case string:
			out = append(out, keys.Part{Kind: 2, S: v})
		default:
			panic("neither an int nor a text")
		}
	}
	return out
}

// with is a list and parts behind it, in other memory.
func with(l []keys.Part, more ...keys.Part) []keys.Part { return append(slices.Clone(l), more...) }

// times is a list so many times.
func times(n int, l []keys.Part) []keys.Part { return slices.Repeat(l, n) }

// letters is a text of so many bytes.
func letters(n int) string { return strings.Repeat("a", n) }

// zeros is a text of so many 00.
func zeros(n int) string { return strings.Repeat("\x00", n) }

// long is a list whose key has so many bytes, of which 9 are an int's.
func long(n int) []keys.Part { return parts(7, letters(n-12)) }

// hex is bytes as the chapter writes them, the first ones.
func hex(s string) string { return strings.ToUpper(fmt.Sprintf("% x", s[:min(len(s), 250)])) }

// bytes is the bytes of what hex tells.
func bytes(s string) string {
	var out []byte
	for _, digits := range strings.Fields(s) {
		b, err := strconv.ParseUint(digits, 16, 8)
		if err != nil {
			panic(err)
		}
		out = append(out, byte(b))
	}
	return string(out)
}

// tell is a list's parts, fields that their kind doesn't name too.
func tell(l []keys.Part) string {
	var out []string
	for _, p := range l {
		s := strconv.Itoa(p.Kind) + ":" + strconv.Itoa(p.N) + ":"
		if len(p.S) > 30 {
			s += strconv.Quote(p.S[:30]) + " and so on, " + strconv.Itoa(len(p.S)) + " bytes"
		} else {
			s += strconv.Quote(p.S)
		}
		out = append(out, s)
	}
	return "(" + strings.Join(out, ", ") + ")"
}

// encode is the key of a list that has one.
func encode(t *testing.T, l []keys.Part) string {
	t.Helper()
	key, e := keys.Encode(l)
	if e != api.OK {
		t.Fatalf("%s: %d", tell(l), e)
	}
	return key
}

// encodes holds the key of a list against one, and the range of what begins so.
func encodes(t *testing.T, l []keys.Part, want string) {
	t.Helper()
	if key, e := keys.Encode(l); key != want || e != api.OK {
		t.Errorf("Encode%s: %s, %d, not %s", tell(l), hex(key), e, hex(want))
	}
	if from, to, e := keys.Prefix(l); from != want || to != want+"\xFF" || e != api.OK {
		t.Errorf("Prefix%s: %s, %s, %d, not from %s", tell(l), hex(from), hex(to), e, hex(want))
	}
}

// refuses holds a list to have no key, and no range.
func refuses(t *testing.T, l []keys.Part, want api.Errno) {
	t.Helper()
	if key, e := keys.Encode(l); key != "" || e != want {
		t.Errorf("Encode%s: %s, %d, not %d", tell(l), hex(key), e, want)
	}
	if from, to, e := keys.Prefix(l); from != "" || to != "" || e != want {
		t.Errorf("Prefix%s: %s, %s, %d, not %d", tell(l), hex(from), hex(to), e, want)
	}
}

// decodes holds the parts of a key against a list.
func decodes(t *testing.T, key string, want []keys.Part) {
	t.Helper()
	if l, e := keys.Decode(key); !slices.Equal(l, want) || e != api.OK {
		t.Errorf("Decode(%s): %s, %d, not %s", hex(key), tell(l), e, tell(want))
	}
}

// noKey holds bytes to be no key.
func noKey(t *testing.T, key string) {
	t.Helper()
	if l, e := keys.Decode(key); len(l) != 0 || e != api.ErrForm {
		t.Errorf("Decode(%s): %s, %d", hex(key), tell(l), e)
	}
}

// compares holds two lists against each other, either way round.
func compares(t *testing.T, a, b []keys.Part, want int) {
	t.Helper()
	if got := keys.Compare(a, b); got != want {
		t.Errorf("Compare(%s, %s): %d, not %d", tell(a), tell(b), got, want)
	}
	if got := keys.Compare(b, a); got != -want {
		t.Errorf("Compare(%s, %s): %d, not %d", tell(b), tell(a), got, -want)
	}
}

// ints are those at the edges, and at the edges of bytes, as they rise.
func ints() []int {
	return []int{math.MinInt, math.MinInt + 1, -1 << 62, -1 << 56, -1 << 32, -65537, -65536, -257, -256, -255, -2, -1, 0, 1, 2, 254, 255, 256, 257, 65535, 65536, 1 << 32, 1 << 56, 1 << 62, math.MaxInt - 1, math.MaxInt}
}

// texts are some with 00, with FF, with 00 FF and with what looks like an end or a part, as they rise.
func texts() []string {
	return []string{"", "\x00", "\x00\x00", "\x00\x00\x00", "\x00\x01", "\x00\x01\x01", "\x00\x02", "\x00a", "\x00\xFF", "\x00\xFF\x00", "\x01", "\x01\x00", "\x02\x00\x01", "a", "a\x00", "a\x00\x00", "a\x00\x01", "a\x00\xFF", "a\x00\xFFb", "a\x01", "aa", "ab", "a\xFF", "b", "é", "\xFE", "\xFF", "\xFF\x00", "\xFF\x00\xFF", "\xFF\x01", "\xFF\xFF"}
}

// anyPart is a part by a chance that is fixed ahead, often one that others are like.
func anyPart(r *rand.Rand) keys.Part {
	switch r.IntN(4) {
	case 0:
		return keys.Int(ints()[r.IntN(len(ints()))])
	case 1:
		return keys.Int(r.IntN(5) - 2)
	case 2:
		return keys.Text(texts()[r.IntN(len(texts()))])
	}
	b := make([]byte, r.IntN(4))
	for i := range b {
		b[i] = "\x00\x01\x02a\xFE\xFF"[r.IntN(6)]
	}
	return keys.Text(string(b))
}

// anyParts is a list that has a key.
func anyParts(r *rand.Rand) []keys.Part {
	var l []keys.Part
	for range r.IntN(api.MaxParts + 1) {
		l = append(l, anyPart(r))
	}
	return l
}

// near is a list that begins as another one does, and may go on as it does, too.
func near(r *rand.Rand, l []keys.Part) []keys.Part {
	l = slices.Clone(l[:r.IntN(len(l)+1)])
	for range r.IntN(3) {
		l = append(l, anyPart(r))
	}
	return l[:min(len(l), api.MaxParts)]
}
