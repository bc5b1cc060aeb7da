package wal_test

import (
	"bytes"
	"hash/crc32"
	"math/rand/v2"
	"slices"
	"strconv"
	"strings"
	"testing"

	"exchequer/api"
	"exchequer/fs"
	"exchequer/wal"
)

// want holds an errno against the one that is asked for.
func want(t *testing.T, what string, got, asked api.Errno) {
	t.Helper()
	if got != asked {
		t.Errorf("%s: %d, not %d", what, got, asked)
	}
}

// number holds a number against the one that is asked for.
func number(t *testing.T, what string, got, asked int) {
	t.Helper()
	if got != asked {
		t.Errorf("%s: %d, not %d", what, got, asked)
	}
}

// texts are records as texts.
func texts(records [][]byte) []string {
	var l []string
	for _, r := range records {
		l = append(l, string(r))
	}
	return l
}

// opened opens a log that must tell these records.
func opened(t *testing.T, f *fs.FS, size int, records ...string) *wal.Log {
	t.Helper()
	l, got, e := wal.Open(f, "w", size)
	if e != api.OK || l == nil {
		t.Fatalf("Open: %d", e)
	}
	if !slices.Equal(texts(got), records) {
		t.Errorf("Open: %q, not %q", texts(got), records)
	}
	return l
}

// refused opens a log that must be refused so.
func refused(t *testing.T, what string, f *fs.FS, dir string, size int, asked api.Errno) {
	t.Helper()
	l, records, e := wal.Open(f, dir, size)
	want(t, what, e, asked)
	if l != nil || len(records) != 0 {
		t.Errorf("%s: %v, %q beside an error", what, l, records)
	}
}

// write appends records that must be taken.
func write(t *testing.T, l *wal.Log, records ...string) {
	t.Helper()
	for _, r := range records {
		want(t, "Append "+r, l.Append([]byte(r)), api.OK)
	}
}

// put makes a file of these bytes.
func put(t *testing.T, f *fs.FS, name string, b []byte) {
	t.Helper()
	want(t, "Create "+name, f.Create(name), api.OK)
	want(t, "Append "+name, f.Append(name, b), api.OK)
	want(t, "Sync "+name, f.Sync(name), api.OK)
}

// framed are the frames of records, one behind the other.
func framed(records ...string) []byte {
	var b []byte
	for _, r := range records {
		b = append(b, wal.Frame([]byte(r))...)
	}
	return b
}

// bytesOf are a file's bytes.
func bytesOf(t *testing.T, f *fs.FS, name string) []byte {
	t.Helper()
	b, e := f.Read(name)
	want(t, "Read "+name, e, api.OK)
	return b
}

// names tells that these files are there and no others.
func names(t *testing.T, f *fs.FS, asked ...string) {
	t.Helper()
	if got := f.Names(""); !slices.Equal(got, asked) {
		t.Errorf("files: %v, not %v", got, asked)
	}
}

// picture is all that a file system tells of itself, but whether it is down.
func picture(f *fs.FS) string {
	s := strconv.Itoa(f.Steps()) + "," + strconv.Itoa(f.Used())
	for _, name := range f.Names("") {
		b, _ := f.Read(name)
		s += "," + name + "=" + string(b)
	}
	return s
}

// roomy is a file system with room for whatever a test writes.
func roomy() *fs.FS { return fs.New(api.MaxRoom) }

func TestWordsSum(t *testing.T) {
	for text, asked := range map[string]uint32{"": 0, "abc": 0x352441c2, "a": 0xe8b7be43, "123456789": 0xcbf43926} {
		if got := wal.Sum([]byte(text)); got != asked {
			t.Errorf("Sum of %q: %x, not %x", text, got, asked)
		}
	}
	if wal.Sum(nil) != 0 {
		t.Error("Sum of nil")
	}
	r := rand.New(rand.NewPCG(1, 2))
	for n := range 600 {
		b := make([]byte, n)
		for i := range b {
			b[i] = byte(r.Uint32())
		}
		if got, asked := wal.Sum(b), crc32.ChecksumIEEE(b); got != asked {
			t.Errorf("Sum of %x: %x, not %x", b, got, asked)
		}
	}
	for c := range 256 {
		if b := []byte{byte(c)}; wal.Sum(b) != crc32.ChecksumIEEE(b) {
			t.Errorf("Sum of %x: %x", b, wal.Sum(b))
		}
	}
}

func TestWordsFrame(t *testing.T) {
	for text, asked := range map[string]string{
		"":    "\x00\x00\x00\x00\x00\x00\x00\x00",
		"a":   "\x01\x00\x00\x00\x43\xbe\xb7\xe8a",
		"abc": "\x03\x00\x00\x00\xc2\x41\x24\x35abc",
	} {
		if got := wal.Frame([]byte(text)); string(got) != asked {
			t.Errorf("Frame of %q: %x, not %x", text, got, asked)
		}
	}
	if got := wal.Frame(nil); !bytes.Equal(got, make([]byte, 8)) {
		t.Errorf("Frame of nil: %x", got)
	}
	long := bytes.Repeat([]byte("x"), 0x010203)
	if got := wal.Frame(long); len(got) != len(long)+8 || string(got[:4]) != "\x03\x02\x01\x00" || !bytes.Equal(got[8:], long) {
		t.Errorf("Frame of a long one: %x ..", got[:8])
	}
}

// scanned tells what Scan must answer.
func scanned(t *testing.T, what string, b []byte, records []string, end int, whole bool) {
	t.Helper()
	got, at, all := wal.Scan(b)
	if !slices.Equal(texts(got), records) || at != end || all != whole {
		t.Errorf("Scan of %s: %d records, %d, %v; not %d, %d, %v", what, len(got), at, all, len(records), end, whole)
	}
}

func TestWordsScan(t *testing.T) {
	scanned(t, "nil", nil, nil, 0, true)
	scanned(t, "nothing", []byte{}, nil, 0, true)
	scanned(t, "an empty record", framed(""), []string{""}, 8, true)
	scanned(t, "some", framed("ab", "", "c"), []string{"ab", "", "c"}, 27, true)
	scanned(t, "less than a head", make([]byte, 7), nil, 0, false)
	scanned(t, "a frame and less than a head", append(framed("ab"), 0), []string{"ab"}, 10, false)
	scanned(t, "noughts", make([]byte, 20), []string{"", ""}, 16, false)
	for _, length := range []string{"\x01\x00\x00\x00", "\x00\x00\x00\x01", "\xff\xff\xff\xff", "\xff\xff\xff\x7f", "\x00\x00\x00\x80", "\xf8\xff\xff\xff", "\xf8\xff\xff\x7f"} {
		scanned(t, "a length above what is there", []byte(length+"\x00\x00\x00\x00"), nil, 0, false)
	}
}

func TestWordsScanSpoilt(t *testing.T) {
	b := framed("ab", "cd", "ef")
	for at := range b {
		for bit := range 8 {
			c := slices.Clone(b)
			c[at] ^= 1 << bit
			n := at / 10
			scanned(t, "one with bit "+strconv.Itoa(at*8+bit)+" turned", c, []string{"ab", "cd", "ef"}[:n], n*10, false)
		}
	}
}

func TestWordsScanLong(t *testing.T) {
	most := strings.Repeat("m", api.MaxRecord)
	b := framed("a", most, "b")
	scanned(t, "a record at the limit", b, []string{"a", most, "b"}, len(b), true)
	scanned(t, "a record above the limit", framed("a", most+"m", "b"), []string{"a"}, 9, false)
}

func TestWordsSegmentName(t *testing.T) {
	for _, c := range []struct {
		dir   string
		n     int
		asked string
	}{{"w", 1, "w/00000001"}, {"a/b", 12, "a/b/00000012"}, {"w", 1234567, "w/01234567"}, {"w", 12345678, "w/12345678"}, {"w", 99999999, "w/99999999"}, {"", 1, "/00000001"}, {"w", 0, ""}, {"w", -1, ""}, {"w", 100000000, ""}, {"w", -1 << 63, ""}} {
		if got := wal.SegmentName(c.dir, c.n); got != c.asked {
			t.Errorf("SegmentName(%q, %d): %q, not %q", c.dir, c.n, got, c.asked)
		}
	}
}

func TestP2_1New(t *testing.T) {
	f := roomy()
	l := opened(t, f, 16)
	number(t, "Segment", l.Segment(), 1)
	number(t, "First", l.First(), 1)
	number(t, "Cut", l.Cut(), 0)
	number(t, "Steps", f.Steps(), 1)
	names(t, f, "w/00000001")
	number(t, "Used", f.Used(), 0)
	opened(t, f, 16)
	number(t, "Steps of Open of an empty log", f.Steps(), 1)
}

func TestP2_1Dirs(t *testing.T) {
	most := strings.Repeat("a", api.MaxName-9)
	for _, dir := range []string{"w", "a/b", "a/", "a//b", ".", "0", "-", most} {
		f := roomy()
		l, _, e := wal.Open(f, dir, 16)
		want(t, "Open of "+dir, e, api.OK)
		want(t, "Append", l.Append([]byte("x")), api.OK)
		names(t, f, dir+"/00000001")
		_, records, e := wal.Open(f, dir, 16)
		want(t, "Open again", e, api.OK)
		if !slices.Equal(texts(records), []string{"x"}) {
			t.Errorf("%s: %q", dir, records)
		}
	}
	for _, dir := range []string{"", "/", "/w", "W", "w w", "w_", "\x00", "é", most + "a", strings.Repeat("a", 1000)} {
		f := roomy()
		refused(t, "Open of "+dir, f, dir, 16, api.ErrName)
		number(t, "Steps", f.Steps(), 0)
	}
}

func TestP2_1Sizes(t *testing.T) {
	for _, size := range []int{16, 17, api.MaxRecord - 1, api.MaxRecord} {
		f := roomy()
		write(t, opened(t, f, size), "x")
		opened(t, f, size, "x")
	}
	for _, size := range []int{15, 0, -1, -16, -1 << 63, api.MaxRecord + 1, 1<<63 - 1} {
		f := roomy()
		refused(t, "Open with size "+strconv.Itoa(size), f, "w", size, api.ErrRange)
		number(t, "Steps", f.Steps(), 0)
	}
}

func TestP2_1OrderOfErrors(t *testing.T) {
	f := roomy()
	put(t, f, "w/00000001", nil)
	put(t, f, "w/00000003", nil)
	refused(t, "a missing number", f, "w", 16, api.ErrCorrupt)
	f.Arm(1)
	f.Sync("w/00000001")
	refused(t, "a bad name ahead", f, "W", 15, api.ErrName)
	refused(t, "a bad size ahead", f, "w", 15, api.ErrRange)
	refused(t, "down ahead", f, "w", 16, api.ErrDown)
	refused(t, "a bad name of none", nil, "W", 15, api.ErrName)
	refused(t, "a bad size of none", nil, "w", 15, api.ErrRange)
	refused(t, "no file system", nil, "w", 16, api.ErrDown)
}

func TestP2_1FirstSegmentFails(t *testing.T) {
	f := roomy()
	f.Arm(1)
	refused(t, "an armed one", f, "w", 16, api.ErrDown)
	f.Crash(nil)
	names(t, f)
	opened(t, f, 16)
	full := roomy()
	for i := range api.MaxFiles {
		want(t, "Create", full.Create("f"+strconv.Itoa(i)), api.OK)
	}
	refused(t, "one full of files", full, "w", 16, api.ErrFull)
	want(t, "Remove", full.Remove("f7"), api.OK)
	opened(t, full, 16)
}

func TestP2_1WhichFiles(t *testing.T) {
	f := roomy()
	for _, name := range []string{"w", "w/0", "w/00000000", "w/000000001", "w/0000001", "w/0000000a", "w/-0000001", "w/.0000001", "w/x/00000001", "w//00000001", "w0/00000007", "v/00000008", "x/w/00000009", "w-00000001", "00000001"} {
		put(t, f, name, []byte("other "+name))
	}
	steps := f.Steps()
	l := opened(t, f, 16)
	number(t, "Segment", l.Segment(), 1)
	number(t, "Steps", f.Steps(), steps+1)
	write(t, l, "0123456789", "x")
	l = opened(t, f, 16, "0123456789", "x")
	number(t, "Segment", l.Segment(), 2)
}

func TestP2_1InOrder(t *testing.T) {
	f := roomy()
	put(t, f, "w/00000011", framed("d"))
	put(t, f, "w/00000009", framed("a", "", "b"))
	put(t, f, "w/00000010", framed("c"))
	put(t, f, "w/00000012", nil)
	l := opened(t, f, 16, "a", "", "b", "c", "d")
	number(t, "First", l.First(), 9)
	number(t, "Segment", l.Segment(), 12)
	number(t, "Cut", l.Cut(), 0)
	write(t, l, "e")
	if got := bytesOf(t, f, "w/00000012"); !bytes.Equal(got, framed("e")) {
		t.Errorf("the last segment: %x", got)
	}
}

func TestP2_1EmptyInTheMiddle(t *testing.T) {
	f := roomy()
	put(t, f, "w/00000001", nil)
	put(t, f, "w/00000002", framed("a"))
	put(t, f, "w/00000003", nil)
	put(t, f, "w/00000004", nil)
	number(t, "Segment", opened(t, f, 16, "a").Segment(), 4)
}

func TestP2_1MissingNumber(t *testing.T) {
	for gone := 1; gone <= 4; gone++ {
		f := roomy()
		var left []string
		for n := 1; n <= 4; n++ {
			if n != gone {
				put(t, f, wal.SegmentName("w", n), framed(strconv.Itoa(n)))
				left = append(left, strconv.Itoa(n))
			}
		}
		if gone == 1 || gone == 4 {
			opened(t, f, 16, left...)
			continue
		}
		was := picture(f)
		refused(t, "without "+strconv.Itoa(gone), f, "w", 16, api.ErrCorrupt)
		if picture(f) != was {
			t.Errorf("P0.3: without %d something has changed", gone)
		}
	}
	f := roomy()
	put(t, f, "w/00000001", nil)
	put(t, f, "w/99999999", nil)
	refused(t, "far apart", f, "w", 16, api.ErrCorrupt)
}

func TestP2_1SpoiltAheadOfTheLast(t *testing.T) {
	whole := framed("one", "two")
	for at := range whole {
		spoilt := slices.Clone(whole)
		spoilt[at] ^= 0x40
		for n := 1; n <= 2; n++ {
			f := roomy()
			for i := 1; i <= 3; i++ {
				b := whole
				if i == n {
					b = spoilt
				}
				put(t, f, wal.SegmentName("w", i), b)
			}
			// Torn, too: what is spoilt ahead of it keeps it from being cut.
			want(t, "Append", f.Append("w/00000003", []byte("torn")), api.OK)
			was := picture(f)
			refused(t, "a spoilt one", f, "w", 16, api.ErrCorrupt)
			if picture(f) != was {
				t.Errorf("P0.3: spoilt at %d of %d: something has changed", at, n)
			}
		}
	}
}

func TestP2_1TornAheadOfTheLast(t *testing.T) {
	whole := framed("one", "two")
	for n := range len(whole) {
		f := roomy()
		put(t, f, "w/00000001", whole[:n])
		put(t, f, "w/00000002", nil)
		switch n {
		case 0:
			opened(t, f, 16)
		case 11:
			opened(t, f, 16, "one")
		default:
			refused(t, "a torn one", f, "w", 16, api.ErrCorrupt)
		}
	}
}

func TestP2_1LongRecordInAFile(t *testing.T) {
	f := roomy()
	long := strings.Repeat("l", api.MaxRecord+1)
	put(t, f, "w/00000001", framed("a", long, "b"))
	l := opened(t, f, 16, "a")
	number(t, "Cut", l.Cut(), len(long)+8+9)
	g := roomy()
	put(t, g, "w/00000001", framed(long))
	put(t, g, "w/00000002", nil)
	refused(t, "one that is too long ahead of the last", g, "w", 16, api.ErrCorrupt)
}

func TestP2_1CutsTheLast(t *testing.T) {
	b := framed("one", "two", "three")
	for n := range len(b) + 1 {
		f := roomy()
		put(t, f, "w/00000004", framed("zero"))
		put(t, f, "w/00000005", b[:n])
		steps := f.Steps()
		records, end := []string{"zero"}, 0
		for i, at := range []int{11, 22, 35} {
			if n >= at {
				records, end = append(records, []string{"one", "two", "three"}[i]), at
			}
		}
		l := opened(t, f, 100, records...)
		number(t, "Cut", l.Cut(), n-end)
		if n == end {
			number(t, "Steps", f.Steps(), steps)
		} else {
			number(t, "Steps", f.Steps(), steps+2)
		}
		if got := bytesOf(t, f, "w/00000005"); !bytes.Equal(got, b[:end]) {
			t.Errorf("cut at %d: %x", n, got)
		}
		write(t, l, "new")
		f.Crash(nil)
		opened(t, f, 100, append(records, "new")...)
	}
}

func TestP2_1CutIsSynced(t *testing.T) {
	f := roomy()
	put(t, f, "w/00000001", framed("one"))
	want(t, "Append", f.Append("w/00000001", append(framed("two"), "torn"...)), api.OK)
	number(t, "Cut", opened(t, f, 16, "one", "two").Cut(), 4)
	f.Crash(nil)
	number(t, "Cut", opened(t, f, 16, "one", "two").Cut(), 0)
}

func TestP2_1SpoiltInTheLast(t *testing.T) {
	b := framed("one", "two", "three")
	b[20] ^= 1
	f := roomy()
	put(t, f, "w/00000001", b)
	number(t, "Cut", opened(t, f, 100, "one").Cut(), len(b)-11)
	number(t, "Used", f.Used(), 11)
}

func TestP2_1CutFails(t *testing.T) {
	for arm := 1; arm <= 3; arm++ {
		for _, keep := range []int{0, 1, 99} {
			f := roomy()
			put(t, f, "w/00000001", framed("one"))
			want(t, "Append", f.Append("w/00000001", []byte("torn")), api.OK)
			f.Arm(arm)
			if arm <= 2 {
				refused(t, "armed", f, "w", 16, api.ErrDown)
			} else {
				opened(t, f, 16, "one")
			}
			f.Crash(func(string, int) int { return keep })
			opened(t, f, 16, "one")
			number(t, "Cut", opened(t, f, 16, "one").Cut(), 0)
		}
	}
}

func TestP2_2Append(t *testing.T) {
	f := roomy()
	l := opened(t, f, 100)
	for i, r := range []string{"one", "", "two"} {
		steps := f.Steps()
		write(t, l, r)
		number(t, "Steps of "+strconv.Itoa(i), f.Steps(), steps+2)
	}
	if got := bytesOf(t, f, "w/00000001"); !bytes.Equal(got, framed("one", "", "two")) {
		t.Errorf("the file: %x", got)
	}
	want(t, "nil", l.Append(nil), api.OK)
	f.Crash(nil)
	opened(t, f, 100, "one", "", "two", "")
}

func TestP2_2WhenItRotates(t *testing.T) {
	for _, c := range []struct{ size, record, segment int }{
		{16, 7, 1}, {16, 8, 2}, {16, 9, 2}, {16, 1000, 2}, {17, 8, 1}, {17, 9, 2}, {100, 91, 1}, {100, 92, 2},
		{api.MaxRecord, api.MaxRecord - 9, 1}, {api.MaxRecord, api.MaxRecord - 8, 2}, {api.MaxRecord, api.MaxRecord, 2},
	} {
		f := roomy()
		l := opened(t, f, c.size)
		want(t, "Append", l.Append(make([]byte, c.record)), api.OK)
		number(t, "Segment behind the first", l.Segment(), 1)
		steps := f.Steps()
		want(t, "Append", l.Append([]byte("x")), api.OK)
		number(t, "Segment of "+strconv.Itoa(c.size)+" with "+strconv.Itoa(c.record), l.Segment(), c.segment)
		number(t, "Steps", f.Steps(), steps+1+c.segment)
		number(t, "First", l.First(), 1)
		m, records, e := wal.Open(f, "w", c.size)
		want(t, "Open", e, api.OK)
		number(t, "records", len(records), 2)
		number(t, "Segment anew", m.Segment(), c.segment)
	}
}

func TestP2_2SumsUpToSize(t *testing.T) {
	f := roomy()
	l := opened(t, f, 30)
	var records []string
	for i := range 20 {
		write(t, l, strconv.Itoa(i))
		records = append(records, strconv.Itoa(i))
		l = opened(t, f, 30, records...)
	}
	// Frames of 9 bytes fill a segment with 4 of them, frames of 10 with 3.
	number(t, "Segment", l.Segment(), 3+3)
}

func TestP2_2Long(t *testing.T) {
	f := roomy()
	l := opened(t, f, 16)
	most := strings.Repeat("m", api.MaxRecord)
	want(t, "at the limit", l.Append([]byte(most)), api.OK)
	was := picture(f)
	want(t, "above the limit", l.Append([]byte(most+"m")), api.ErrLong)
	number(t, "Segment", l.Segment(), 1)
	if picture(f) != was {
		t.Error("P0.3: something has changed")
	}
	write(t, l, "on")
	opened(t, f, 16, most, "on")
}

func TestP2_2LongAheadOfDown(t *testing.T) {
	f := roomy()
	l := opened(t, f, 16)
	f.Arm(1)
	f.Sync("w/00000001")
	want(t, "too long and down", l.Append(make([]byte, api.MaxRecord+1)), api.ErrLong)
	f.Crash(nil)
	write(t, l, "it has not met ErrDown")
	f.Arm(1)
	f.Sync("w/00000001")
	want(t, "down", l.Append(nil), api.ErrDown)
	want(t, "too long and stuck", l.Append(make([]byte, api.MaxRecord+1)), api.ErrState)
}

func TestP2_2Full(t *testing.T) {
	f := fs.New(40)
	l := opened(t, f, 16)
	write(t, l, "0123456789")
	for range 3 {
		want(t, "one byte too many", l.Append(make([]byte, 15)), api.ErrFull)
		number(t, "Segment", l.Segment(), 2)
		number(t, "Used", f.Used(), 18)
	}
	opened(t, f, 16, "0123456789")
	want(t, "all the room", l.Append(make([]byte, 14)), api.OK)
	number(t, "Used", f.Used(), 40)
	want(t, "no room", l.Append(nil), api.ErrFull)
	want(t, "Drop", l.Drop(3), api.OK)
	write(t, l, "on")
	f.Crash(nil)
	opened(t, f, 16, "on")
}

func TestP2_2FullOfFiles(t *testing.T) {
	f := roomy()
	l := opened(t, f, 16)
	write(t, l, "0123456789")
	for i := 1; i < api.MaxFiles; i++ {
		want(t, "Create", f.Create("f"+strconv.Itoa(i)), api.OK)
	}
	was := picture(f)
	want(t, "Append", l.Append([]byte("x")), api.ErrFull)
	want(t, "Rotate", l.Rotate(), api.ErrFull)
	number(t, "Segment", l.Segment(), 1)
	if picture(f) != was {
		t.Error("P0.3: something has changed")
	}
	want(t, "Remove", f.Remove("f1"), api.OK)
	write(t, l, "x")
	opened(t, f, 16, "0123456789", "x")
}

func TestP2_2LastNumber(t *testing.T) {
	f := roomy()
	put(t, f, "w/99999998", framed("0123456789"))
	l := opened(t, f, 16, "0123456789")
	write(t, l, "9876543210")
	number(t, "Segment", l.Segment(), 99999999)
	was := picture(f)
	want(t, "Append", l.Append([]byte("x")), api.ErrRange)
	if picture(f) != was {
		t.Error("P0.3: something has changed")
	}
	want(t, "Rotate", l.Rotate(), api.ErrRange)
	want(t, "Drop", l.Drop(99999999), api.OK)
	opened(t, f, 16, "9876543210")
}

// stuck tells that a log answers ErrState to all that writes, whatever else would be wrong, and does nothing.
func stuck(t *testing.T, f *fs.FS, l *wal.Log) {
	t.Helper()
	was := picture(f)
	want(t, "Append of a stuck one", l.Append([]byte("x")), api.ErrState)
	want(t, "Append of a stuck one, too long", l.Append(make([]byte, api.MaxRecord+1)), api.ErrState)
	want(t, "Rotate of a stuck one", l.Rotate(), api.ErrState)
	want(t, "Drop of a stuck one", l.Drop(1), api.ErrState)
	want(t, "Drop of a stuck one, above", l.Drop(l.Segment()+1), api.ErrState)
	if picture(f) != was {
		t.Error("a stuck one did something")
	}
}

func TestP2_2Stuck(t *testing.T) {
	for what, do := range map[string]func(l *wal.Log) api.Errno{
		"Append": func(l *wal.Log) api.Errno { return l.Append([]byte("next")) },
		"Rotate": func(l *wal.Log) api.Errno { return l.Rotate() },
		"Drop":   func(l *wal.Log) api.Errno { return l.Drop(3) },
	} {
		for arm := 1; arm <= 3; arm++ {
			f := roomy()
			l := opened(t, f, 16)
			write(t, l, "0123456789", "0123456789", "0123456789")
			f.Arm(arm)
			e := do(l)
			if met := arm <= map[string]int{"Append": 3, "Rotate": 1, "Drop": 2}[what]; !met {
				want(t, what, e, api.OK)
				continue
			}
			want(t, what, e, api.ErrDown)
			stuck(t, f, l)
			f.Crash(nil)
			stuck(t, f, l)
			m, _, e := wal.Open(f, "w", 16)
			want(t, "Open anew", e, api.OK)
			want(t, "Append to the new one", m.Append(nil), api.OK)
		}
	}
}

func TestP2_2OtherErrorsDoNotStick(t *testing.T) {
	f := fs.New(20)
	l := opened(t, f, 16)
	want(t, "ErrFull", l.Append(make([]byte, 13)), api.ErrFull)
	want(t, "ErrLong", l.Append(make([]byte, api.MaxRecord+1)), api.ErrLong)
	want(t, "ErrRange", l.Drop(2), api.ErrRange)
	write(t, l, "on")
	want(t, "Rotate", l.Rotate(), api.OK)
	want(t, "Drop", l.Drop(2), api.OK)
}

func TestP2_3Rotate(t *testing.T) {
	f := roomy()
	l := opened(t, f, 100)
	write(t, l, "a")
	for n := 2; n <= 4; n++ {
		steps := f.Steps()
		want(t, "Rotate", l.Rotate(), api.OK)
		number(t, "Segment", l.Segment(), n)
		number(t, "First", l.First(), 1)
		number(t, "Steps", f.Steps(), steps+1)
	}
	names(t, f, "w/00000001", "w/00000002", "w/00000003", "w/00000004")
	write(t, l, "b")
	if got := bytesOf(t, f, "w/00000004"); !bytes.Equal(got, framed("b")) {
		t.Errorf("the last segment: %x", got)
	}
	number(t, "Segment", opened(t, f, 100, "a", "b").Segment(), 4)
}

func TestP2_3LastNumber(t *testing.T) {
	f := roomy()
	put(t, f, "w/99999998", nil)
	l := opened(t, f, 16)
	want(t, "to the last", l.Rotate(), api.OK)
	number(t, "Segment", l.Segment(), 99999999)
	f.Arm(1)
	f.Sync("w/99999999")
	want(t, "above it, ahead of ErrDown", l.Rotate(), api.ErrRange)
	f.Crash(nil)
	want(t, "above it", l.Rotate(), api.ErrRange)
	number(t, "Segment", l.Segment(), 99999999)
	names(t, f, "w/99999998", "w/99999999")
	write(t, l, "on")
}

func TestP2_3Down(t *testing.T) {
	f := roomy()
	l := opened(t, f, 16)
	f.Arm(1)
	want(t, "Rotate", l.Rotate(), api.ErrDown)
	number(t, "Segment", l.Segment(), 1)
	names(t, f, "w/00000001")
}

func TestP2_4Drop(t *testing.T) {
	for below := -2; below <= 6; below++ {
		f := roomy()
		l := opened(t, f, 16)
		write(t, l, "0123456781", "0123456782", "0123456783", "0123456784")
		asked, first := api.OK, max(below, 1)
		if below > 4 {
			asked, first = api.ErrRange, 1
		}
		steps := f.Steps()
		want(t, "Drop", l.Drop(below), asked)
		number(t, "First", l.First(), first)
		number(t, "Segment", l.Segment(), 4)
		number(t, "Steps", f.Steps(), steps+first-1)
		var left, records []string
		for n := first; n <= 4; n++ {
			left = append(left, wal.SegmentName("w", n))
			records = append(records, "012345678"+strconv.Itoa(n))
		}
		names(t, f, left...)
		f.Crash(nil)
		m := opened(t, f, 16, records...)
		number(t, "First anew", m.First(), first)
		write(t, l, "on")
		want(t, "Drop again", l.Drop(first), api.OK)
		number(t, "First", l.First(), first)
	}
}

func TestP2_4Extremes(t *testing.T) {
	f := roomy()
	l := opened(t, f, 16)
	want(t, "the least int", l.Drop(-1<<63), api.OK)
	want(t, "the greatest int", l.Drop(1<<63-1), api.ErrRange)
	want(t, "the one there is", l.Drop(1), api.OK)
	names(t, f, "w/00000001")
}

func TestP2_4LowestFirst(t *testing.T) {
	for arm := 1; arm <= 3; arm++ {
		f := roomy()
		l := opened(t, f, 16)
		write(t, l, "0123456781", "0123456782", "0123456783", "0123456784")
		f.Arm(arm)
		want(t, "Drop", l.Drop(4), api.ErrDown)
		number(t, "First", l.First(), arm)
		f.Crash(nil)
		m := opened(t, f, 16, []string{"0123456781", "0123456782", "0123456783", "0123456784"}[arm-1:]...)
		number(t, "First anew", m.First(), arm)
		number(t, "Segment anew", m.Segment(), 4)
	}
}

func TestP2_4RangeAheadOfDown(t *testing.T) {
	f := roomy()
	l := opened(t, f, 16)
	write(t, l, "0123456789", "x")
	f.Arm(1)
	f.Sync("w/00000001")
	want(t, "above", l.Drop(3), api.ErrRange)
	want(t, "nothing to remove", l.Drop(1), api.OK)
	want(t, "something to remove", l.Drop(2), api.ErrDown)
	want(t, "above, stuck", l.Drop(3), api.ErrState)
}

func TestP2_5HandedIn(t *testing.T) {
	f := roomy()
	l := opened(t, f, 100)
	p := []byte("record....")
	want(t, "Append", l.Append(p[:6]), api.OK)
	if string(p) != "record...." {
		t.Errorf("what was handed in is %q", p)
	}
	copy(p, "XXXXXXXXXX")
	opened(t, f, 100, "record")
	q := []byte("frame....")
	b := wal.Frame(q[:5])
	wal.Sum(q)
	if string(q) != "frame...." {
		t.Errorf("what was handed in is %q", q)
	}
	q[0] = 'X'
	if string(b[8:]) != "frame" {
		t.Errorf("Frame kept it: %q", b[8:])
	}
}

func TestP2_5Answers(t *testing.T) {
	b := framed("one", "two", "")
	was := slices.Clone(b)
	records, _, _ := wal.Scan(b)
	other, _, _ := wal.Scan(b)
	spoil(records)
	if !bytes.Equal(b, was) || !slices.Equal(texts(other), []string{"one", "two", ""}) {
		t.Error("Scan shares memory")
	}
	copy(b, make([]byte, len(b)))
	if !slices.Equal(texts(other), []string{"one", "two", ""}) {
		t.Error("Scan kept what was handed in")
	}
	f := roomy()
	put(t, f, "w/00000001", was)
	_, records, _ = wal.Open(f, "w", 100)
	spoil(records)
	opened(t, f, 100, "one", "two", "")
}

// spoil overwrites records one by one, spare room included; what stands in those behind must not change by it.
func spoil(records [][]byte) {
	for i, r := range records {
		rest := texts(records[i+1:])
		r = append(r[:cap(r)], "more"...)
		r = r[:cap(r)]
		for j := range r {
			r[j] = 'Y'
		}
		if !slices.Equal(texts(records[i+1:]), rest) {
			panic("two records share memory")
		}
	}
}

func TestP2_5OtherFiles(t *testing.T) {
	f := roomy()
	others := []string{"a", "w", "w/00000000", "w/000000012", "w/0000000a", "w/x/00000002", "w2/00000001", "x/00000001"}
	for _, name := range others {
		put(t, f, name, []byte("synced "+name))
		want(t, "Append", f.Append(name, []byte(" rest")), api.OK)
	}
	l := opened(t, f, 16)
	write(t, l, "0123456789", "0123456789", "x")
	want(t, "Rotate", l.Rotate(), api.OK)
	want(t, "Drop", l.Drop(3), api.OK)
	want(t, "Append", f.Append("w/00000004", []byte("torn")), api.OK)
	opened(t, f, 16, "x")
	want(t, "Drop", l.Drop(4), api.OK)
	names(t, f, slices.Sorted(slices.Values(append([]string{"w/00000004"}, others...)))...)
	for _, name := range others {
		if got := bytesOf(t, f, name); string(got) != "synced "+name+" rest" {
			t.Errorf("%s: %q", name, got)
		}
	}
	f.Crash(nil)
	for _, name := range others {
		if got := bytesOf(t, f, name); string(got) != "synced "+name {
			t.Errorf("%s was synced: %q", name, got)
		}
	}
}

func TestP2_5TwoLogs(t *testing.T) {
	f := roomy()
	l := opened(t, f, 16)
	m, _, e := wal.Open(f, "w/w", 16)
	want(t, "Open of another", e, api.OK)
	write(t, l, "0123456789", "l")
	write(t, m, "0123456789", "0123456789", "m")
	want(t, "Drop", l.Drop(2), api.OK)
	opened(t, f, 16, "l")
	_, records, _ := wal.Open(f, "w/w", 16)
	if !slices.Equal(texts(records), []string{"0123456789", "0123456789", "m"}) {
		t.Errorf("the other: %q", records)
	}
}

func TestP0_1NoLog(t *testing.T) {
	var none *wal.Log
	stuck(t, roomy(), none)
	number(t, "Segment", none.Segment(), 0)
	number(t, "First", none.First(), 0)
	number(t, "Cut", none.Cut(), 0)
	var zero wal.Log
	want(t, "Drop above", zero.Drop(1), api.ErrRange)
	want(t, "Append", zero.Append(nil), api.ErrDown)
	stuck(t, roomy(), &zero)
}
