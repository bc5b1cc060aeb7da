package keys_test

import (
	"math/rand/v2"
	"slices"
	"strings"
	"testing"

	"exchequer/keys"
)

// lists are all of up to two parts, out of some at the edges, a few of three, and some at the limits.
func lists() [][]keys.Part {
	some := append(parts(-1<<63, -1, 0, 1, 1<<62, 1<<63-1), parts("", "\x00", "\x00\x01", "\x00\xFF", "\x01", "a", "a\x00", "a\x00\xFF", "a\xFF", "b", "\xFF")...)
	l := [][]keys.Part{nil}
	for _, p := range some {
		l = append(l, []keys.Part{p})
		for _, q := range some {
			l = append(l, []keys.Part{p, q}, []keys.Part{p, p, q})
		}
	}
	return append(l, long(199), long(200), parts(letters(197)), parts(letters(196)+"b"), parts(zeros(98)), parts(zeros(97)+"a"), times(8, parts("")), times(7, parts("")), times(8, parts(1<<63-1)), times(7, parts(1<<63-1)))
}

// ordered holds the bytes of two lists' keys to stand as the lists do.
func ordered(t *testing.T, a, b []keys.Part, x, y string) {
	t.Helper()
	c := keys.Compare(a, b)
	if strings.Compare(x, y) != c || (x == y) != slices.Equal(a, b) {
		t.Errorf("%s, %s: %d, but %s, %s", tell(a), tell(b), c, hex(x), hex(y))
	}
}

// ranged holds a key to lie in the range of a list just if its parts begin so.
func ranged(t *testing.T, l, of []keys.Part, key string) {
	t.Helper()
	from, to, _ := keys.Prefix(l)
	within := len(of) >= len(l) && slices.Equal(of[:len(l)], l)
	if (from <= key && key < to) != within {
		t.Errorf("%s in the range of %s (%s, %s): %t", tell(of), tell(l), hex(from), hex(to), !within)
	}
}

// TestP8_6Order holds each list of many to stand to each as its key does.
func TestP8_6Order(t *testing.T) {
	all := lists()
	var encoded []string
	for _, l := range all {
		encoded = append(encoded, encode(t, l))
	}
	for i, a := range all {
		for j, b := range all {
			ordered(t, a, b, encoded[i], encoded[j])
		}
	}
	r := rand.New(rand.NewPCG(8, 6))
	for range 50000 {
		a, b := anyParts(r), anyParts(r)
		c := near(r, a)
		ordered(t, a, b, encode(t, a), encode(t, b))
		ordered(t, a, c, encode(t, a), encode(t, c))
	}
}

// TestP8_6Sorted sorts many lists, and their keys as texts: they come in one order.
func TestP8_6Sorted(t *testing.T) {
	r := rand.New(rand.NewPCG(86, 8))
	var all [][]keys.Part
	var encoded []string
	for range 3000 {
		l := anyParts(r)
		all, encoded = append(all, l), append(encoded, encode(t, l))
	}
	slices.SortFunc(all, keys.Compare)
	slices.Sort(encoded)
	for i, l := range all {
		decodes(t, encoded[i], l)
	}
}

// TestP8_6ThereAndBack decodes what was encoded, and encodes what was decoded.
func TestP8_6ThereAndBack(t *testing.T) {
	all := lists()
	r := rand.New(rand.NewPCG(68, 6))
	for range 20000 {
		all = append(all, anyParts(r))
	}
	for _, l := range all {
		key := encode(t, l)
		decodes(t, key, l)
		again, _ := keys.Decode(key)
		encodes(t, again, key)
	}
	for _, l := range [][]keys.Part{{{Kind: 1, N: 5, S: "x"}, {Kind: 2, N: 5, S: "x"}}} {
		decodes(t, encode(t, l), parts(5, "x"))
	}
}

// TestP8_7Ranges holds each key of many to lie in the range of each list just if it begins so.
func TestP8_7Ranges(t *testing.T) {
	all := lists()
	for _, of := range all {
		key := encode(t, of)
		for _, l := range all {
			ranged(t, l, of, key)
		}
		for n := range len(of) + 1 {
			ranged(t, of[:n], of, key)
		}
	}
	r := rand.New(rand.NewPCG(8, 7))
	for range 50000 {
		of, l := anyParts(r), anyParts(r)
		key := encode(t, of)
		ranged(t, l, of, key)
		ranged(t, near(r, of), of, key)
		ranged(t, of[:r.IntN(len(of)+1)], of, key)
	}
}
