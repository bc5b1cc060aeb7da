package keys

import (
	"cmp"
	"strings"
)

// The kinds of parts. In a key, the byte of that number stands ahead of a part.
const (
	kindInt  = 1
	kindText = 2
)

// The bytes of a text's end and of a 0 within it. The end is the less, so that a text stands ahead of those that go on with a 0.
const (
	textEnd  = "\x00\x01"
	textZero = "\x00\xFF"
)

// sizeInt is how many bytes an int has in a key.
const sizeInt = 8

// lowest is the least int as its bits are: to flip it brings the ints below 0 ahead of the others.
const lowest = 1 << 63

// kind is what parts of one kind have in common.
type kind struct {
	compare func(p, q Part) int                    // -1, 0 or 1
	size    func(p Part) int                       // how many bytes put writes
	put     func(key []byte, p Part) []byte        // writes a part behind a key that ends with its kind
	take    func(rest string) (Part, string, bool) // reads a part whose kind stands ahead: it, and what is behind it; false if there is none
}

// kinds are those that there are, by their numbers.
func kinds() map[int]kind {
	return map[int]kind{
		kindInt:  {compareInts, sizeOfInt, putInt, takeInt},
		kindText: {compareTexts, sizeOfText, putText, takeText},
	}
}

// compareInts is -1, 0 or 1 by two parts' ints.
func compareInts(p, q Part) int { return cmp.Compare(p.N, q.N) }

// compareTexts is -1, 0 or 1 by the bytes of two parts' texts.
func compareTexts(p, q Part) int { return strings.Compare(p.S, q.S) }

// sizeOfInt is how many bytes an int's part has behind its kind.
func sizeOfInt(Part) int { return sizeInt }

// sizeOfText is how many bytes a text's part has behind its kind.
func sizeOfText(p Part) int { return len(p.S) + strings.Count(p.S, "\x00") + len(textEnd) }

// putInt writes an int, the high byte first.
func putInt(key []byte, p Part) []byte {
	n := uint64(p.N) ^ lowest
	for i := range sizeInt {
		key = append(key, byte(n>>(8*(sizeInt-1-i))))
	}
	return key
}

// putText writes a text, each 0 of it so that it is no end, and its end.
func putText(key []byte, p Part) []byte {
	return append(key, strings.ReplaceAll(p.S, "\x00", textZero)+textEnd...)
}

// takeInt reads an int; false if it is cut.
func takeInt(rest string) (Part, string, bool) {
	if len(rest) < sizeInt {
		return Part{}, "", false
	}
	n := uint64(0)
	for i := range sizeInt {
		n = n<<8 | uint64(rest[i])
	}
	return Int(int(n ^ lowest)), rest[sizeInt:], true
}

// takeText reads a text up to its end; false if there is no end, or a 0 ahead of it that is not one within a text.
func takeText(rest string) (Part, string, bool) {
	front, behind, ended := strings.Cut(rest, textEnd)
	if !ended || strings.Count(front, "\x00") != strings.Count(front, textZero) {
		return Part{}, "", false
	}
	return Text(strings.ReplaceAll(front, textZero, "\x00")), behind, true
}
