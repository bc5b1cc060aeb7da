package keys_test

import (
	"math"
	"math/rand/v2"
	"regexp"
	"slices"
	"testing"

	"exchequer/api"
	"exchequer/keys"
)

// TestP8_2Examples decodes what the chapter decodes.
func TestP8_2Examples(t *testing.T) {
	noKey(t, bytes("02 61"))
	noKey(t, bytes("01"))
	decodes(t, "", nil)
}

// TestP8_2Bytes decodes keys that are written out.
func TestP8_2Bytes(t *testing.T) {
	for _, x := range []struct {
		key  string
		want []keys.Part
	}{
		{"01 80 00 00 00 00 00 00 01", parts(1)},
		{"01 00 00 00 00 00 00 00 00", parts(math.MinInt)},
		{"01 7F FF FF FF FF FF FF FF", parts(-1)},
		{"01 80 00 00 00 00 00 00 00", parts(0)},
		{"01 FF FF FF FF FF FF FF FF", parts(math.MaxInt)},
		{"01 81 02 03 04 05 06 07 08", parts(0x0102030405060708)},
		{"01 02 00 01 02 00 01 02 00", parts(math.MinInt + 0x0200010200010200)},
		{"02 00 01", parts("")},
		{"02 00 FF 00 01", parts("\x00")},
		{"02 00 FF FF 00 01", parts("\x00\xFF")},
		{"02 FF 00 01", parts("\xFF")},
		{"02 01 00 01", parts("\x01")},
		{"02 02 00 01", parts("\x02")},
		{"02 61 00 FF 00 FF 62 00 01", parts("a\x00\x00b")},
		{"02 61 00 01 02 00 01", parts("a", "")},
		{"02 61 00 01 01 80 00 00 00 00 00 00 01", parts("a", 1)},
		{"01 7F FF FF FF FF FF FF FF 02 00 FF 00 01 01 80 00 00 00 00 00 00 00", parts(-1, "\x00", 0)},
		{"02 00 FF 01 00 01 02 01 00 01", parts("\x00\x01", "\x01")},
	} {
		decodes(t, bytes(x.key), x.want)
	}
}

// TestP8_2Wrong decodes bytes that are no key.
func TestP8_2Wrong(t *testing.T) {
	for _, key := range []string{
		"00", "03", "FF", "30", "61", "00 01", "00 FF", "80", "81", "82",
		"01 00", "01 80 00 00 00 00 00 00", "01 01 01", "01 02 00 01",
		"02", "02 00", "02 FF", "02 01", "02 02", "02 61 00", "02 61 00 FF", "02 61 00 FF 00", "02 00 FF 01", "02 61 01",
		"02 00 00", "02 00 00 01", "02 00 02", "02 00 02 00 01", "02 00 FE 00 01", "02 61 00 61 00 01", "02 61 00 00 FF 00 01", "02 00 FF 00 02 00 01", "02 00 80 00 01",
		"02 00 01 00", "02 00 01 03", "02 00 01 FF", "02 00 01 61", "02 00 01 01", "02 00 01 02", "02 00 01 00 01", "02 00 01 02 61", "02 00 01 02 00 00 01",
		"01 80 00 00 00 00 00 00 01 00", "01 80 00 00 00 00 00 00 01 01", "01 80 00 00 00 00 00 00 01 FF",
	} {
		noKey(t, bytes(key))
	}
}

// TestP8_2Cut cuts keys at each byte: what is left is a key just if it is cut between two parts.
func TestP8_2Cut(t *testing.T) {
	r := rand.New(rand.NewPCG(8, 2))
	for range 1000 {
		l := anyParts(r)
		key := encode(t, l)
		whole := map[int]int{}
		for n := range len(l) + 1 {
			whole[len(written(l[:n]))] = n
		}
		for i := range len(key) + 1 {
			if n, is := whole[i]; is {
				decodes(t, key[:i], l[:n])
			} else {
				noKey(t, key[:i])
			}
		}
	}
}

// TestP8_2Limits decodes keys of as many bytes and parts as may be, and of more, which are no list's.
func TestP8_2Limits(t *testing.T) {
	for _, l := range [][]keys.Part{long(199), long(200), parts(letters(197)), parts(zeros(98) + "a"), times(8, parts("")), times(8, parts(-3)), times(8, parts(letters(22)))} {
		decodes(t, written(l), l)
	}
	for _, l := range [][]keys.Part{long(201), long(202), long(2000), parts(letters(198)), parts(zeros(99)), times(9, parts("")), times(9, parts(-3)), times(5, parts("", 1)), times(66, parts("")), times(67, parts("")), times(100, parts("")), times(22, parts(1)), times(8, parts(letters(23))), parts(letters(1 << 20))} {
		noKey(t, written(l))
	}
	noKey(t, encode(t, times(8, parts("")))+"\x02")
	noKey(t, encode(t, times(8, parts("")))+"\xFF")
	noKey(t, encode(t, long(200))+"\xFF")
}

// form is what a key looks like, a rune a byte.
var form = regexp.MustCompile(`\A(?s:\x01.{8}|\x02(?:[^\x00]|\x00\x{FF})*\x00\x01){0,8}\z`)

// isKey: are bytes of a key's form?
func isKey(key string) bool {
	l := make([]rune, len(key))
	for i, b := range []byte(key) {
		l[i] = rune(b)
	}
	return len(key) <= 200 && form.MatchString(string(l))
}

// formed holds what is decoded from bytes against the form, and against what is encoded from that.
func formed(t *testing.T, key string) {
	t.Helper()
	if !isKey(key) {
		noKey(t, key)
		return
	}
	l, e := keys.Decode(key)
	if e != api.OK || written(l) != key {
		t.Errorf("Decode(%s): %s, %d", hex(key), tell(l), e)
	}
	encodes(t, l, key)
}

// TestP8_2Short decodes all short rows of the bytes that mean something.
func TestP8_2Short(t *testing.T) {
	row := []string{""}
	for range 6 {
		var longer []string
		for _, key := range row {
			formed(t, key)
			for _, b := range []byte{0, 1, 2, 'a', 0xFF} {
				longer = append(longer, key+string([]byte{b}))
			}
		}
		row = longer
	}
	for a := range 256 {
		for b := range 256 {
			formed(t, string([]byte{byte(a), byte(b)}))
			formed(t, string([]byte{2, byte(a), byte(b), 0, 1}))
			formed(t, string([]byte{2, 0, byte(a), 0, byte(b)}))
			formed(t, string([]byte{1, byte(a), 0, 1, 2, 3, 4, 5, byte(b)}))
		}
	}
}

// TestP8_2Spoilt decodes keys of which a byte is another one, is lacking or is too much.
func TestP8_2Spoilt(t *testing.T) {
	r := rand.New(rand.NewPCG(82, 8))
	for range 20000 {
		key := []byte(encode(t, anyParts(r)))
		for range 1 + r.IntN(3) {
			i, b := r.IntN(len(key)+1), "\x00\x01\x02a\xFE\xFF"[r.IntN(6)]
			switch {
			case r.IntN(3) == 0:
				key = slices.Insert(key, i, b)
			case i == len(key):
			case r.IntN(2) == 0:
				key[i] = b
			default:
				key = slices.Delete(key, i, i+1)
			}
		}
		formed(t, string(key))
	}
}
