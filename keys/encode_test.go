package keys_test

import (
	"encoding/binary"
	"math"
	"math/rand/v2"
	"slices"
	"strings"
	"testing"

	"exchequer/api"
	"exchequer/keys"
)

// TestP8_1Parts makes parts, whose other field is 0 or empty.
func TestP8_1Parts(t *testing.T) {
	for _, n := range ints() {
		if p := keys.Int(n); p != (keys.Part{Kind: 1, N: n}) {
			t.Errorf("%d: %s", n, tell([]keys.Part{p}))
		}
	}
	for _, s := range append(texts(), letters(5000), zeros(300)) {
		if p := keys.Text(s); p != (keys.Part{Kind: 2, S: s}) {
			t.Errorf("%q: %s", s, tell([]keys.Part{p}))
		}
	}
}

// TestP8_1Examples encodes what the chapter encodes.
func TestP8_1Examples(t *testing.T) {
	encodes(t, []keys.Part{keys.Int(1)}, bytes("01 80 00 00 00 00 00 00 01"))
	encodes(t, []keys.Part{keys.Text("a"), keys.Text("")}, bytes("02 61 00 01 02 00 01"))
}

// TestP8_1Bytes writes out the keys at the edges.
func TestP8_1Bytes(t *testing.T) {
	for _, x := range []struct {
		l    []keys.Part
		want string
	}{
		{nil, ""},
		{[]keys.Part{}, ""},
		{parts(math.MinInt), "01 00 00 00 00 00 00 00 00"},
		{parts(math.MinInt + 1), "01 00 00 00 00 00 00 00 01"},
		{parts(-256), "01 7F FF FF FF FF FF FF 00"},
		{parts(-1), "01 7F FF FF FF FF FF FF FF"},
		{parts(0), "01 80 00 00 00 00 00 00 00"},
		{parts(0x0102030405060708), "01 81 02 03 04 05 06 07 08"},
		{parts(math.MaxInt), "01 FF FF FF FF FF FF FF FF"},
		{parts(""), "02 00 01"},
		{parts("\x00"), "02 00 FF 00 01"},
		{parts("\x00\x00"), "02 00 FF 00 FF 00 01"},
		{parts("\xFF"), "02 FF 00 01"},
		{parts("\x00\xFF"), "02 00 FF FF 00 01"},
		{parts("\xFF\x00"), "02 FF 00 FF 00 01"},
		{parts("\x00\x01"), "02 00 FF 01 00 01"},
		{parts("a\x00b"), "02 61 00 FF 62 00 01"},
		{parts("a\x00"), "02 61 00 FF 00 01"},
		{parts("é"), "02 C3 A9 00 01"},
		{parts("", "", ""), "02 00 01 02 00 01 02 00 01"},
		{parts("a", 1), "02 61 00 01 01 80 00 00 00 00 00 00 01"},
		{parts(-1, "\x00", 0), "01 7F FF FF FF FF FF FF FF 02 00 FF 00 01 01 80 00 00 00 00 00 00 00"},
		{parts("", "", "", "", "", "", "", ""), "02 00 01 02 00 01 02 00 01 02 00 01 02 00 01 02 00 01 02 00 01 02 00 01"},
	} {
		encodes(t, x.l, bytes(x.want))
	}
}

// written is a list's bytes, made by Go's own means.
func written(l []keys.Part) string {
	var b []byte
	for _, p := range l {
		if p.Kind == 1 {
			b = binary.BigEndian.AppendUint64(append(b, 1), uint64(p.N)+1<<63)
			continue
		}
		b = append(b, 2)
		for _, c := range []byte(p.S) {
			if b = append(b, c); c == 0 {
				b = append(b, 0xFF)
			}
		}
		b = append(b, 0, 1)
	}
	return string(b)
}

// TestP8_1Each encodes each int and each text at the edges, alone and behind others, and many lists.
func TestP8_1Each(t *testing.T) {
	for _, n := range ints() {
		encodes(t, parts(n), written(parts(n)))
		encodes(t, parts("a\x00", n, n, ""), written(parts("a\x00", n, n, "")))
	}
	for _, s := range texts() {
		encodes(t, parts(s), written(parts(s)))
		encodes(t, parts(-1, s, s, 5), written(parts(-1, s, s, 5)))
	}
	for c := range 256 {
		s := string([]byte{byte(c)})
		encodes(t, parts(s), written(parts(s)))
	}
	r := rand.New(rand.NewPCG(8, 1))
	for range 5000 {
		l := anyParts(r)
		encodes(t, l, written(l))
	}
}

// TestP8_1OtherField encodes parts whose other field says something, which is not looked at.
func TestP8_1OtherField(t *testing.T) {
	for _, s := range []string{"x", "\x00", letters(300), zeros(100000)} {
		encodes(t, []keys.Part{{Kind: 1, N: 5, S: s}}, written(parts(5)))
		encodes(t, times(8, []keys.Part{{Kind: 1, N: -5, S: s}}), written(times(8, parts(-5))))
	}
	for _, n := range ints() {
		encodes(t, []keys.Part{{Kind: 2, N: n, S: "x"}}, written(parts("x")))
	}
}

// noKinds are numbers that are no kind.
func noKinds() []int {
	return []int{0, -1, 3, 4, -2, 255, 256, 257, 258, 1 << 32, 1<<32 + 1, 1<<32 + 2, math.MaxInt, math.MinInt, math.MinInt + 1, math.MinInt + 2}
}

// TestP8_1Many encodes as many parts as may be, and more, whatever else is wrong with them.
func TestP8_1Many(t *testing.T) {
	for _, l := range [][]keys.Part{parts(1), parts(""), parts("\x00ab")} {
		encodes(t, times(7, l), written(times(7, l)))
		encodes(t, times(8, l), written(times(8, l)))
		refuses(t, times(9, l), api.ErrMany)
		refuses(t, times(1000, l), api.ErrMany)
	}
	refuses(t, make([]keys.Part, 9), api.ErrMany)
	refuses(t, times(9, parts(letters(300))), api.ErrMany)
	for _, kind := range noKinds() {
		for i := range 9 {
			l := times(9, parts(1))
			l[i].Kind = kind
			refuses(t, l, api.ErrMany)
		}
	}
}

// TestP8_1Kind encodes parts of no kind, at each place, and also where the others are too long.
func TestP8_1Kind(t *testing.T) {
	for _, kind := range noKinds() {
		p := keys.Part{Kind: kind, N: 1, S: "a"}
		refuses(t, []keys.Part{p}, api.ErrKind)
		for i := range 8 {
			refuses(t, slices.Insert(times(7, parts(1)), i, p), api.ErrKind)
			refuses(t, slices.Insert(times(7, parts("a")), i, p), api.ErrKind)
			refuses(t, slices.Insert(times(7, parts(letters(1000))), i, p), api.ErrKind)
		}
		refuses(t, []keys.Part{{Kind: kind, S: letters(1000)}}, api.ErrKind)
	}
	refuses(t, make([]keys.Part, 8), api.ErrKind)
}

// TestP8_1Long encodes keys of as many bytes as may be, and more, by bytes, by 00 and by ends.
func TestP8_1Long(t *testing.T) {
	for _, l := range [][]keys.Part{
		long(200), parts(letters(197)), parts(zeros(98) + "a"), parts("a" + zeros(98)), parts(letters(95), letters(99)), parts(zeros(47), zeros(50)),
		parts(1, 1, 1, 1, 1, 1, 1, letters(134)), parts(letters(134), 1, 1, 1, 1, 1, 1, 1), parts("", "", "", "", "", "", "", letters(176)), parts(zeros(88), "", "", "", "", "", "", ""),
	} {
		encodes(t, l, written(l))
		more := slices.Clone(l)
		i := slices.IndexFunc(more, func(p keys.Part) bool { return p.Kind == 2 })
		more[i].S += letters(201 - len(written(l)))
		refuses(t, more, api.ErrLong)
	}
	for n := 190; n <= 200; n++ {
		encodes(t, long(n), written(long(n)))
	}
	for n := 201; n < 450; n++ {
		refuses(t, long(n), api.ErrLong)
	}
	for _, l := range [][]keys.Part{
		parts(zeros(99)), parts(zeros(98) + "aa"), parts(letters(197) + "\x00"), parts(letters(196) + "\x00"), parts(letters(197), ""), parts(letters(197), 0), parts(0, letters(197)), parts("", letters(195)), parts(letters(95), letters(100)),
		parts(letters(1 << 20)), parts(zeros(1 << 20)), times(8, parts(letters(1<<20))), times(8, parts(letters(23))), parts(strings.Repeat("\xFF", 198)),
	} {
		refuses(t, l, api.ErrLong)
	}
}

// TestP8_4Ranges writes out ranges at the edges.
func TestP8_4Ranges(t *testing.T) {
	for _, x := range []struct {
		l        []keys.Part
		from, to string
	}{
		{nil, "", "FF"},
		{parts(1), "01 80 00 00 00 00 00 00 01", "01 80 00 00 00 00 00 00 01 FF"},
		{parts(math.MaxInt), "01 FF FF FF FF FF FF FF FF", "01 FF FF FF FF FF FF FF FF FF"},
		{parts("a", ""), "02 61 00 01 02 00 01", "02 61 00 01 02 00 01 FF"},
		{parts("\x00\xFF"), "02 00 FF FF 00 01", "02 00 FF FF 00 01 FF"},
	} {
		if from, to, e := keys.Prefix(x.l); from != bytes(x.from) || to != bytes(x.to) || e != api.OK {
			t.Errorf("%s: %s, %s, %d", tell(x.l), hex(from), hex(to), e)
		}
	}
	if from, to, e := keys.Prefix(long(200)); from != written(long(200)) || to != written(long(200))+"\xFF" || len(to) != 201 || e != api.OK {
		t.Errorf("%s, %s, %d", hex(from), hex(to), e)
	}
}

// TestP8_4Errors asks for ranges of parts that have no key, which is told as Encode tells it.
func TestP8_4Errors(t *testing.T) {
	for _, x := range []struct {
		l    []keys.Part
		want api.Errno
	}{
		{times(9, parts("")), api.ErrMany},
		{make([]keys.Part, 9), api.ErrMany},
		{times(9, parts(letters(300))), api.ErrMany},
		{make([]keys.Part, 1), api.ErrKind},
		{with(parts(letters(300)), keys.Part{Kind: 3}), api.ErrKind},
		{long(201), api.ErrLong},
		{parts(zeros(99)), api.ErrLong},
	} {
		if from, to, e := keys.Prefix(x.l); from != "" || to != "" || e != x.want {
			t.Errorf("%s: %s, %s, %d, not %d", tell(x.l), hex(from), hex(to), e, x.want)
		}
	}
}
