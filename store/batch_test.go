package store_test

import (
	"bytes"
	"math"
	"math/rand/v2"
	"slices"
	"strconv"
	"testing"

	"exchequer/api"
	"exchequer/store"
)

// encoded is the bytes of a batch that must be one.
func encoded(t *testing.T, seq int, l ...store.Change) []byte {
	t.Helper()
	b, e := store.EncodeBatch(seq, l)
	want(t, "EncodeBatch", e, api.OK)
	return b
}

// noBatch tells that bytes are no batch.
func noBatch(t *testing.T, what string, b []byte) {
	t.Helper()
	if seq, l, e := store.DecodeBatch(b); seq != 0 || len(l) != 0 || e != api.ErrForm {
		t.Errorf("P4.8: DecodeBatch, %s: %d, %d changes, %d", what, seq, len(l), e)
	}
}

// recordOf is a batch whose bytes are so many.
func recordOf(n int) []store.Change { return recordFrom("k", n) }

// recordFrom is a batch of keys with that front, whose bytes are so many.
func recordFrom(front string, n int) []store.Change {
	var l []store.Change
	for n -= 10; n > 0; {
		key := front + strconv.Itoa(100+len(l))
		value := min(n-6-len(key), api.MaxValue)
		// What is left behind it must be none, or enough for another change.
		if left := n - 6 - len(key) - value; left > 0 && left < 20 {
			value -= 20
		}
		l = append(l, put(key, long(value)))
		n -= 6 + len(key) + value
	}
	return l
}

func TestWordsBatchBytes(t *testing.T) {
	asked := "\x01\x00\x00\x00\x00\x00\x00\x00\x01\x00\x01\x01a\x01\x00\x00\x00x"
	text(t, "the example", string(encoded(t, 1, put("a", "x"))), asked)
	asked = "\x08\x07\x06\x05\x04\x03\x02\x01\x02\x00\x02\x02ab\x01\x01c\x00\x00\x00\x00"
	l := []store.Change{{Key: "ab", Value: "not looked at", Drop: true}, put("c", "")}
	text(t, "a drop and an empty value", string(encoded(t, 0x0102030405060708, l...)), asked)
	text(t, "none", string(encoded(t, 3)), string(batch(3)))
	l = several(api.MaxBatch, long(300))
	text(t, "many", string(encoded(t, math.MaxInt, l...)), string(batch(math.MaxInt, l...)))
}

func TestWordsBatchErrors(t *testing.T) {
	name, value, twice := put("", "v"), put("v", long(api.MaxValue+1)), put("a", "2")
	for i, x := range []struct {
		seq int
		l   []store.Change
		e   api.Errno
	}{
		{0, nil, api.ErrForm},
		{math.MinInt, several(api.MaxBatch+1, ""), api.ErrForm},
		{1, nil, api.OK},
		{1, several(api.MaxBatch, ""), api.OK},
		{1, several(api.MaxBatch+1, ""), api.ErrMany},
		{1, append(several(api.MaxBatch, ""), name), api.ErrMany},
		{1, []store.Change{name}, api.ErrName},
		{1, []store.Change{drop("")}, api.ErrName},
		{1, []store.Change{put("k", "v")}, api.OK},
		{1, []store.Change{put(long(api.MaxKey), "")}, api.OK},
		{1, []store.Change{put(long(api.MaxKey+1), "")}, api.ErrName},
		{1, []store.Change{drop(long(api.MaxKey + 1))}, api.ErrName},
		{1, []store.Change{put("k", long(api.MaxValue))}, api.OK},
		{1, []store.Change{value}, api.ErrLong},
		{1, []store.Change{{Key: "k", Value: long(api.MaxValue + 1), Drop: true}}, api.OK},
		{1, []store.Change{put("", long(api.MaxValue+1))}, api.ErrName},
		{1, []store.Change{put("a", "1"), twice}, api.ErrTwice},
		{1, []store.Change{put("a", "1"), drop("a")}, api.ErrTwice},
		{1, []store.Change{drop("a"), put("b", ""), drop("a")}, api.ErrTwice},
		{1, []store.Change{put("a", "1"), put("a", long(api.MaxValue+1))}, api.ErrLong},
		{1, []store.Change{value, name}, api.ErrLong},
		{1, []store.Change{name, value}, api.ErrName},
		{1, []store.Change{put("a", "1"), twice, name, value}, api.ErrTwice},
		{1, []store.Change{put("a", "1"), name, twice}, api.ErrName},
		{1, recordOf(api.MaxRecord), api.OK},
		{1, recordOf(api.MaxRecord + 1), api.ErrLong},
		{1, append(recordOf(api.MaxRecord+1), name), api.ErrName},
		{1, append(recordOf(api.MaxRecord), drop("d")), api.ErrLong},
		{1, several(api.MaxBatch, long(api.MaxValue)), api.ErrLong},
	} {
		b, e := store.EncodeBatch(x.seq, x.l)
		want(t, "EncodeBatch "+strconv.Itoa(i), e, x.e)
		if (len(b) == 0) != (x.e != api.OK) || len(b) > api.MaxRecord {
			t.Errorf("EncodeBatch %d: %d bytes", i, len(b))
		}
	}
}

func TestP4_8ThereAndBack(t *testing.T) {
	r := rand.New(rand.NewPCG(1, 8))
	lists := [][]store.Change{nil, recordOf(api.MaxRecord), several(api.MaxBatch, ""), {put(long(api.MaxKey), long(api.MaxValue))}}
	for range 300 {
		var l []store.Change
		for i := range r.IntN(9) {
			key := strconv.Itoa(i) + long(r.IntN(api.MaxKey-1))
			if r.IntN(3) == 0 {
				l = append(l, drop(key))
			} else {
				l = append(l, put(key, long(r.IntN(400))))
			}
		}
		lists = append(lists, l)
	}
	for i, l := range lists {
		seq := r.IntN(math.MaxInt) + 1
		got, back, e := store.DecodeBatch(encoded(t, seq, l...))
		want(t, "P4.8: DecodeBatch", e, api.OK)
		if got != seq || !slices.Equal(back, l) {
			t.Errorf("P4.8, %d: %d, %d changes", i, got, len(back))
		}
	}
	for _, seq := range []int{1, 255, 256, math.MaxInt} {
		got, back, e := store.DecodeBatch(encoded(t, seq, store.Change{Key: "k", Value: "gone", Drop: true}))
		if got != seq || !slices.Equal(back, []store.Change{drop("k")}) || e != api.OK {
			t.Errorf("P4.8: %d: %d, %v, %d", seq, got, back, e)
		}
	}
}

func TestP4_8NoBatch(t *testing.T) {
	b := batch(1<<40, put("a", ""), drop("b"), put("c", long(300)))
	for n := range len(b) {
		noBatch(t, strconv.Itoa(n)+" bytes of it", b[:n])
	}
	tooMany := several(api.MaxBatch+1, "")
	for what, wrong := range map[string][]byte{
		"nothing":                     nil,
		"a byte behind it":            append(slices.Clone(b), 0),
		"seq 0":                       batch(0, put("a", "")),
		"a seq of 2^63":               batch(1<<63, put("a", "")),
		"the greatest seq":            batch(math.MaxUint64),
		"a kind 0":                    bytes.Replace(b, []byte{1, 1, 'a'}, []byte{0, 1, 'a'}, 1),
		"a kind 3":                    bytes.Replace(b, []byte{1, 1, 'a'}, []byte{3, 1, 'a'}, 1),
		"a drop with a value":         bytes.Replace(b, []byte{1, 1, 'a'}, []byte{2, 1, 'a'}, 1),
		"no key":                      batch(1, put("", "v")),
		"a key that is too long":      batch(1, put(long(api.MaxKey+1), "v")),
		"the longest key of a byte":   batch(1, drop(long(255))),
		"a value that is too long":    batch(1, put("a", long(api.MaxValue+1))),
		"a value's length of 2^32-1":  append(batch(1, put("a", ""))[:13], 255, 255, 255, 255),
		"a key twice":                 batch(1, put("a", ""), drop("a")),
		"too many":                    batch(1, tooMany...),
		"more than are told":          append(batch(1), batch(1, drop("a"))[10:]...),
		"fewer than are told":         append(eight(1), 1, 0),
		"more bytes than a record's":  batch(1, recordOf(api.MaxRecord+1)...),
		"a count of its second byte":  append(eight(1), 0, 1),
		"a count in its greatest way": append(eight(1), 255, 255),
	} {
		noBatch(t, what, wrong)
	}
	if _, l, e := store.DecodeBatch(batch(1, tooMany[:api.MaxBatch]...)); e != api.OK || len(l) != api.MaxBatch {
		t.Errorf("P4.8: as many as may be: %d", e)
	}
}

// TestP4_8AnyBytes decodes bytes in which something is changed: what is a batch still is the one of these bytes.
func TestP4_8AnyBytes(t *testing.T) {
	r := rand.New(rand.NewPCG(2, 8))
	found := 0
	for range 20000 {
		b := batch(uint64(r.IntN(3)), several(r.IntN(3), long(r.IntN(3)))...)
		for range r.IntN(3) {
			b[r.IntN(len(b))] = byte(r.IntN(4))
		}
		b = b[:len(b)-r.IntN(2)*r.IntN(2)]
		seq, l, e := store.DecodeBatch(b)
		if e == api.OK {
			found++
			if again, e := store.EncodeBatch(seq, l); e != api.OK || !bytes.Equal(again, b) {
				t.Fatalf("P4.8: %x: %d, %v, back: %x, %d", b, seq, l, again, e)
			}
		} else if e != api.ErrForm || seq != 0 || len(l) != 0 {
			t.Fatalf("P4.8: %x: %d, %v, %d", b, seq, l, e)
		}
	}
	if found == 0 {
		t.Error("no batch among them")
	}
}

func TestP4_5BatchIsNotKept(t *testing.T) {
	l := []store.Change{put("a", "1"), {Key: "b", Value: "gone", Drop: true}}
	given := slices.Clone(l)
	b := encoded(t, 1, l...)
	if !slices.Equal(l, given) {
		t.Errorf("P4.5: EncodeBatch wrote to what was handed in: %v", l)
	}
	was := slices.Clone(b)
	_, got, _ := store.DecodeBatch(b)
	if !bytes.Equal(b, was) {
		t.Errorf("P4.5: DecodeBatch wrote to what was handed in: %x", b)
	}
	clear(b[:cap(b)])
	if !slices.Equal(got, []store.Change{put("a", "1"), drop("b")}) {
		t.Errorf("P4.5: DecodeBatch kept what was handed in: %v", got)
	}
	text(t, "P4.5: EncodeBatch again", string(encoded(t, 1, l...)), string(was))
}
