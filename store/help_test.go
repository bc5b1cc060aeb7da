package store_test

import (
	"encoding/binary"
	"iter"
	"slices"
	"strconv"
	"strings"
	"testing"
	"unsafe"

	"exchequer/api"
	"exchequer/fs"
	"exchequer/store"
	"exchequer/wal"
)

// want holds an errno against the one that is asked for.
func want(t *testing.T, what string, got, asked api.Errno) {
	t.Helper()
	if got != asked {
		t.Errorf("%s: %d, not %d", what, got, asked)
	}
}

// number holds a number against the one that is asked for.
func number(t *testing.T, what string, got, asked int) {
	t.Helper()
	if got != asked {
		t.Errorf("%s: %d, not %d", what, got, asked)
	}
}

// text holds a text against the one that is asked for.
func text(t *testing.T, what, got, asked string) {
	t.Helper()
	if got != asked {
		t.Errorf("%s: %.300q, not %.300q", what, got, asked)
	}
}

// told is pairs as one text.
func told(l iter.Seq2[string, string]) string {
	var s strings.Builder
	for k, v := range l {
		s.WriteString(k + "=" + v + " ")
	}
	return s.String()
}

// all is all that a store tells.
func all(s *store.Store) string {
	return strconv.Itoa(s.Seq()) + ": " + told(s.All())
}

// put and drop are changes.
func put(k, v string) store.Change { return store.Change{Key: k, Value: v} }
func drop(k string) store.Change   { return store.Change{Key: k, Drop: true} }

// roomy is a file system with room for whatever a test writes.
func roomy() *fs.FS { return fs.New(api.MaxRoom) }

// opened opens a store that must be there.
func opened(t *testing.T, f *fs.FS) *store.Store {
	t.Helper()
	s, e := store.Open(f, "s", store.Opts{Segment: 64})
	if e != api.OK || s == nil {
		t.Fatalf("Open: %d", e)
	}
	return s
}

// refused opens a store that must be refused so.
func refused(t *testing.T, what string, f *fs.FS, asked api.Errno) {
	t.Helper()
	if s, e := store.Open(f, "s", store.Opts{Segment: 64}); e != asked || s != nil {
		t.Errorf("%s: %v, %d, not %d", what, s, e, asked)
	}
}

// write writes a batch that must be taken.
func write(t *testing.T, s *store.Store, l ...store.Change) {
	t.Helper()
	want(t, "Write", s.Write(l), api.OK)
}

// kept makes a checkpoint that must be made.
func kept(t *testing.T, s *store.Store) {
	t.Helper()
	want(t, "Checkpoint", s.Checkpoint(), api.OK)
}

// lay makes a file of these bytes, whether one was there or not.
func lay(t *testing.T, f *fs.FS, name string, b []byte) {
	t.Helper()
	f.Remove(name)
	want(t, "Create "+name, f.Create(name), api.OK)
	want(t, "Append "+name, f.Append(name, b), api.OK)
	want(t, "Sync "+name, f.Sync(name), api.OK)
}

// read are a file's bytes.
func read(t *testing.T, f *fs.FS, name string) []byte {
	t.Helper()
	b, e := f.Read(name)
	want(t, "Read "+name, e, api.OK)
	return b
}

// names tells that these files are there and no others.
func names(t *testing.T, what string, f *fs.FS, asked ...string) {
	t.Helper()
	if got := f.Names(""); !slices.Equal(got, asked) {
		t.Errorf("%s: files: %v, not %v", what, got, asked)
	}
}

// files are all names and bytes of a file system.
func files(f *fs.FS) string {
	s := ""
	for _, name := range f.Names("") {
		b, _ := f.Read(name)
		s += "," + name + "=" + string(b)
	}
	return s
}

// picture is all that a file system tells of itself, how often it was written to as well.
func picture(f *fs.FS) string {
	return strconv.Itoa(f.Steps()) + "," + strconv.FormatBool(f.Down()) + files(f)
}

// eight is a number in eight bytes, the low one first.
func eight(n uint64) []byte { return binary.LittleEndian.AppendUint64(nil, n) }

// batch is a batch's bytes, worked out apart from the package.
func batch(seq uint64, l ...store.Change) []byte {
	b := binary.LittleEndian.AppendUint16(eight(seq), uint16(len(l)))
	for _, c := range l {
		kind := byte(1)
		if c.Drop {
			kind = 2
		}
		b = append(b, kind, byte(len(c.Key)))
		b = append(b, c.Key...)
		if !c.Drop {
			b = binary.LittleEndian.AppendUint32(b, uint32(len(c.Value)))
			b = append(b, c.Value...)
		}
	}
	return b
}

// framed are the frames of records, one behind the other.
func framed(records ...[]byte) []byte {
	var b []byte
	for _, p := range records {
		b = append(b, wal.Frame(p)...)
	}
	return b
}

// manifest is a manifest's bytes.
func manifest(checkpoint, segment uint64) []byte {
	return framed(slices.Concat(eight(checkpoint), eight(segment)))
}

// over is a text that shares its bytes with a list.
func over(b []byte) string { return unsafe.String(unsafe.SliceData(b), len(b)) }

// long is a text of so many bytes.
func long(n int) string { return strings.Repeat("x", n) }

// several are so many changes of keys that rise, all of the same length, with the same value.
func several(n int, value string) []store.Change {
	var l []store.Change
	for i := range n {
		l = append(l, put("k"+strconv.Itoa(100000+i), value))
	}
	return l
}
