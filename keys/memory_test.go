package keys_test

import (
	"math/rand/v2"
	"slices"
	"strings"
	"testing"
	"unsafe"

	"exchequer/api"
	"exchequer/keys"
)

// held is a text in memory that can be written to.
func held(s string) (string, []byte) {
	b := []byte(s)
	return unsafe.String(unsafe.SliceData(b), len(b)), b
}

// shares: has a text its memory from other memory?
func shares(s string, from []byte) bool {
	at, first := uintptr(unsafe.Pointer(unsafe.StringData(s))), uintptr(unsafe.Pointer(unsafe.SliceData(from)))
	return s != "" && at >= first && at < first+uintptr(len(from))
}

// twin is a list in other memory, down to its texts, with spare room that says something behind it.
func twin(l []keys.Part) []keys.Part {
	out := make([]keys.Part, 0, len(l)+3)
	for _, p := range l {
		p.S = strings.Clone(p.S)
		out = append(out, p)
	}
	copy(out[len(l):cap(out)], parts("spare", 1, "room"))
	return out
}

// same: are two lists alike, their spare room too?
func same(a, b []keys.Part) bool { return slices.Equal(a, b) && slices.Equal(a[:cap(a)], b[:cap(b)]) }

// TestP8_5Text makes a part of a text that is spoilt then.
func TestP8_5Text(t *testing.T) {
	for _, s := range append(texts(), letters(1000)) {
		text, b := held(s)
		p := keys.Text(text)
		if shares(p.S, b) {
			t.Errorf("%q: the same memory", s)
		}
		for i := range b {
			b[i] ^= 0x55
		}
		if p != (keys.Part{Kind: 2, S: s}) {
			t.Errorf("%q: %s", s, tell([]keys.Part{p}))
		}
	}
}

// TestP8_5In hands in lists, also such as are refused, and finds them as they were.
func TestP8_5In(t *testing.T) {
	r := rand.New(rand.NewPCG(8, 5))
	all := [][]keys.Part{nil, times(9, parts("a")), make([]keys.Part, 3), long(201), {{Kind: 1, N: 1, S: "x"}, {Kind: 2, N: 2, S: "y"}, {Kind: 3, N: 3, S: "z"}}, {{Kind: 1, N: 1, S: "x"}, {Kind: 2, N: 2, S: "y"}}}
	for range 1000 {
		all = append(all, anyParts(r))
	}
	for _, of := range all {
		a, b := twin(of), twin(near(r, of))
		keptA, keptB := twin(a), twin(b)
		keys.Encode(a)
		keys.Prefix(a)
		keys.Compare(a, b)
		keys.Compare(b, a)
		if !same(a, keptA) || !same(b, keptB) {
			t.Errorf("%s, %s", tell(a), tell(b))
		}
	}
}

// TestP8_5Encode spoils a list and its texts behind the call: the key and the range are as they were.
func TestP8_5Encode(t *testing.T) {
	for _, s := range append(texts(), letters(100)) {
		text, b := held(s)
		l := []keys.Part{{Kind: 2, S: text}, {Kind: 1, N: 5}}
		want := written(l)
		key, _ := keys.Encode(l)
		from, to, _ := keys.Prefix(l)
		if shares(key, b) || shares(from, b) || shares(to, b) {
			t.Errorf("%q: the same memory", s)
		}
		for i := range b {
			b[i] ^= 0x55
		}
		clear(l)
		if key != want || from != want || to != want+"\xFF" {
			t.Errorf("%q: %s, %s, %s", s, hex(key), hex(from), hex(to))
		}
	}
}

// TestP8_5Decode spoils a key and what was decoded from it: nothing hangs on the other.
func TestP8_5Decode(t *testing.T) {
	r := rand.New(rand.NewPCG(58, 8))
	for range 1000 {
		want := anyParts(r)
		key, b := held(encode(t, want))
		first, _ := keys.Decode(key)
		second, _ := keys.Decode(key)
		if key != written(want) {
			t.Errorf("%s: changed", tell(want))
		}
		for _, p := range first {
			if shares(p.S, b) {
				t.Errorf("%s: %q is kept", tell(want), p.S)
			}
		}
		clear(b)
		if !slices.Equal(first, want) {
			t.Errorf("%s, not %s", tell(first), tell(want))
		}
		clear(first[:cap(first)])
		if !slices.Equal(second, want) {
			t.Errorf("%s, not %s", tell(second), tell(want))
		}
	}
}

// TestP8_5Again calls each with the same again, behind other calls: it answers the same.
func TestP8_5Again(t *testing.T) {
	r := rand.New(rand.NewPCG(85, 5))
	l := parts(-5, "a\x00", "", 7)
	key := written(l)
	for range 500 {
		other := anyParts(r)
		keys.Encode(other)
		keys.Encode(times(9, other))
		keys.Decode(encode(t, other) + "\x02")
		keys.Prefix(other)
		encodes(t, l, key)
		decodes(t, key, l)
		compares(t, l, with(l, keys.Int(0)), -1)
		if _, e := keys.Decode(key + "\x00"); e != api.ErrForm {
			t.Errorf("%d", e)
		}
	}
}
