package keys_test

import (
	"math"
	"slices"
	"testing"

	"exchequer/keys"
)

// TestP8_3Examples compares what the chapter compares.
func TestP8_3Examples(t *testing.T) {
	compares(t, []keys.Part{keys.Int(-1)}, []keys.Part{keys.Int(1)}, -1)
	compares(t, []keys.Part{keys.Text("a")}, []keys.Part{keys.Text("a"), keys.Int(1)}, -1)
	compares(t, []keys.Part{keys.Int(1 << 62)}, []keys.Part{keys.Text("")}, -1)
}

// TestP8_3Rising compares each of a row of lists, in which they rise, with each.
func TestP8_3Rising(t *testing.T) {
	row := [][]keys.Part{nil}
	for _, n := range ints() {
		row = append(row, parts(n), parts(n, math.MinInt), parts(n, 0), parts(n, 0, 0), parts(n, ""), parts(n, "", 5), parts(n, "\xFF"))
	}
	for _, s := range texts() {
		row = append(row, parts(s), parts(s, math.MinInt), parts(s, -1), parts(s, 0), parts(s, math.MaxInt, "a"), parts(s, ""), parts(s, "\x00"), parts(s, "a"), parts(s, "a", ""), parts(s, "\xFF"))
	}
	for i, a := range row {
		compares(t, a, slices.Clone(a), 0)
		for _, b := range row[:i] {
			compares(t, b, a, -1)
		}
	}
	compares(t, nil, []keys.Part{}, 0)
}

// TestP8_3OtherKinds compares parts of other kinds, which differ by their kind alone.
func TestP8_3OtherKinds(t *testing.T) {
	kinds := append(noKinds(), 1, 2)
	slices.Sort(kinds)
	for i, kind := range kinds {
		high := []keys.Part{{Kind: kind, N: math.MinInt, S: ""}}
		for _, less := range kinds[:i] {
			low := []keys.Part{{Kind: less, N: math.MaxInt, S: "\xFF"}}
			compares(t, low, high, -1)
			compares(t, with(low, keys.Int(9)), high, -1)
			compares(t, with(parts("a", 1), low...), with(parts("a", 1), high...), -1)
			compares(t, with(parts(1), high...), with(parts(2), low...), -1)
		}
		if kind == 1 || kind == 2 {
			continue
		}
		other := []keys.Part{{Kind: kind, N: 1, S: "x"}}
		compares(t, high, other, 0)
		compares(t, with(high, keys.Int(1)), with(other, keys.Int(2)), -1)
		compares(t, with(high, keys.Text("b")), with(other, keys.Text("a")), 1)
		compares(t, high, with(other, keys.Part{Kind: kind}), -1)
	}
}

// TestP8_3OtherField compares parts whose other field says something, which is not looked at.
func TestP8_3OtherField(t *testing.T) {
	one := func(kind, n int, s string) []keys.Part { return []keys.Part{{Kind: kind, N: n, S: s}} }
	compares(t, one(1, 5, "a"), one(1, 5, "b"), 0)
	compares(t, one(1, 5, "b"), one(1, 6, "a"), -1)
	compares(t, one(2, 5, "a"), one(2, 6, "a"), 0)
	compares(t, one(2, 6, "a"), one(2, 5, "b"), -1)
	compares(t, with(one(1, 5, "b"), keys.Int(1)), with(one(1, 5, "a"), keys.Int(2)), -1)
}

// TestP8_3Long compares lists that have no key, as they are too long.
func TestP8_3Long(t *testing.T) {
	for _, n := range []int{8, 9, 10, 1000} {
		l := times(n, parts(1))
		compares(t, l, slices.Clone(l), 0)
		compares(t, l, with(l, keys.Int(math.MinInt)), -1)
		compares(t, with(l, keys.Int(1)), with(l, keys.Int(2)), -1)
		compares(t, with(l, keys.Int(2)), with(l, keys.Int(1), keys.Int(1)), 1)
	}
	s := letters(1 << 16)
	compares(t, parts(s), parts(s), 0)
	compares(t, parts(s), parts(s+"\x00"), -1)
	compares(t, parts(s+"a"), parts(s+"b"), -1)
	compares(t, parts(s, 1), parts(s, 2), -1)
}
