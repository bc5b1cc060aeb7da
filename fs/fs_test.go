package fs_test

import (
	"bytes"
	"slices"
	"strconv"
	"strings"
	"testing"

	"exchequer/api"
	"exchequer/fs"
)

// want holds an errno against the one that is asked for.
func want(t *testing.T, what string, got, asked api.Errno) {
	t.Helper()
	if got != asked {
		t.Errorf("%s: %d, not %d", what, got, asked)
	}
}

// holds tells that a file has these bytes.
func holds(t *testing.T, f *fs.FS, name, asked string) {
	t.Helper()
	b, e := f.Read(name)
	want(t, "Read "+name, e, api.OK)
	if string(b) != asked {
		t.Errorf("Read %s: %q, not %q", name, b, asked)
	}
	n, e := f.Size(name)
	want(t, "Size "+name, e, api.OK)
	if n != len(asked) {
		t.Errorf("Size %s: %d, not %d", name, n, len(asked))
	}
}

// gone tells that there is no such file.
func gone(t *testing.T, f *fs.FS, name string) {
	t.Helper()
	b, e := f.Read(name)
	want(t, "Read "+name, e, api.ErrNone)
	n, g := f.Size(name)
	want(t, "Size "+name, g, api.ErrNone)
	if len(b) != 0 || n != 0 {
		t.Errorf("%s: %q, %d beside an error", name, b, n)
	}
}

// put makes a file of some synced bytes and some that are not.
func put(t *testing.T, f *fs.FS, name, synced, rest string) {
	t.Helper()
	want(t, "Create "+name, f.Create(name), api.OK)
	want(t, "Append "+name, f.Append(name, []byte(synced)), api.OK)
	want(t, "Sync "+name, f.Sync(name), api.OK)
	if rest != "" {
		want(t, "Append "+name, f.Append(name, []byte(rest)), api.OK)
	}
}

// all keeps everything.
func all(_ string, unsynced int) int { return unsynced }

func TestP1_1Valid(t *testing.T) {
	for _, name := range []string{"a", "z", "0", "9", "-", ".", "..", "a/b.c-1", "a//b", "-/.", strings.Repeat("z", api.MaxName), "a/" + strings.Repeat("b", 98)} {
		if !fs.Valid(name) {
			t.Errorf("%q is refused", name)
		}
		want(t, "Create "+name, fs.New(0).Create(name), api.OK)
	}
	for _, name := range []string{"", "/", "//", "/a", "a/", "A", "Z", "a_b", "a b", "a\x00", "a\n", "é", "\xff", "a:b", "a`", "{", ",", strings.Repeat("z", api.MaxName+1)} {
		if fs.Valid(name) {
			t.Errorf("%q is taken", name)
		}
		want(t, "Create "+name, fs.New(0).Create(name), api.ErrName)
	}
}

func TestP1_1EveryByte(t *testing.T) {
	for c := range 256 {
		one := string([]byte{'a', byte(c), 'a'})
		asked := strings.IndexByte("abcdefghijklmnopqrstuvwxyz0123456789-./", byte(c)) >= 0
		if fs.Valid(one) != asked {
			t.Errorf("%q: %v", one, !asked)
		}
	}
}

func TestP1_1Room(t *testing.T) {
	big := int(^uint(0) >> 1)
	for _, c := range [][2]int{{0, 0}, {1, 1}, {10, 10}, {-1, 0}, {-big - 1, 0}, {api.MaxRoom - 1, api.MaxRoom - 1}, {api.MaxRoom, api.MaxRoom}, {api.MaxRoom + 1, api.MaxRoom}, {big, api.MaxRoom}} {
		f := fs.New(c[0])
		if f == nil || f.Room() != c[1] {
			t.Fatalf("New(%d).Room() is not %d", c[0], c[1])
		}
		if f.Used() != 0 || f.Steps() != 0 || f.Down() || len(f.Names("")) != 0 {
			t.Errorf("New(%d) is not empty", c[0])
		}
	}
}

func TestP1_1Used(t *testing.T) {
	f := fs.New(100)
	put(t, f, "a", "abc", "de")
	put(t, f, "b", "", "xyz")
	used := func(n int) {
		t.Helper()
		if f.Used() != n {
			t.Errorf("Used: %d, not %d", f.Used(), n)
		}
	}
	used(8)
	f.Truncate("a", 4)
	used(7)
	f.Crash(func(string, int) int { return 1 })
	used(5)
	f.Rename("b", "a")
	used(1)
	f.Rename("a", "a")
	used(1)
	f.Remove("a")
	used(0)
}

func TestP1_2Create(t *testing.T) {
	f := fs.New(0)
	want(t, "Create", f.Create("a"), api.OK)
	holds(t, f, "a", "")
	want(t, "again", f.Create("a"), api.ErrThere)
	want(t, "a bad name", f.Create("a/"), api.ErrName)
	for i := 1; i < api.MaxFiles; i++ {
		want(t, "at the limit", f.Create("f"+strconv.Itoa(i)), api.OK)
	}
	want(t, "above the limit", f.Create("z"), api.ErrFull)
	gone(t, f, "z")
	want(t, "a bad name of a full one", f.Create("Z"), api.ErrName)
	want(t, "one that is there, of a full one", f.Create("a"), api.ErrThere)
	want(t, "Rename of a full one", f.Rename("a", "z"), api.OK)
	want(t, "Remove", f.Remove("z"), api.OK)
	want(t, "with room for it again", f.Create("a"), api.OK)
}

func TestP1_2CreateKeepsWhatIsThere(t *testing.T) {
	f := fs.New(10)
	put(t, f, "a", "abc", "d")
	want(t, "Create", f.Create("a"), api.ErrThere)
	holds(t, f, "a", "abcd")
}

func TestP1_2Append(t *testing.T) {
	f := fs.New(10)
	want(t, "to none", f.Append("a", []byte("x")), api.ErrNone)
	want(t, "too much to none", f.Append("a", make([]byte, 11)), api.ErrNone)
	want(t, "to a bad name", f.Append("A", nil), api.ErrNone)
	f.Create("a")
	f.Create("b")
	want(t, "nothing", f.Append("a", nil), api.OK)
	want(t, "some", f.Append("a", []byte("abc")), api.OK)
	want(t, "more", f.Append("a", []byte("de")), api.OK)
	holds(t, f, "a", "abcde")
	want(t, "one too many", f.Append("b", []byte("123456")), api.ErrFull)
	holds(t, f, "b", "")
	want(t, "just the room", f.Append("b", []byte("12345")), api.OK)
	want(t, "above the room", f.Append("a", []byte("f")), api.ErrFull)
	want(t, "nothing to a full one", f.Append("a", []byte{}), api.OK)
	holds(t, f, "a", "abcde")
	holds(t, f, "b", "12345")
	f.Crash(nil)
	holds(t, f, "a", "")
	holds(t, f, "b", "")
}

func TestP1_2AppendMaxRoom(t *testing.T) {
	f := fs.New(api.MaxRoom + 5)
	f.Create("a")
	want(t, "above", f.Append("a", make([]byte, api.MaxRoom+1)), api.ErrFull)
	want(t, "at it", f.Append("a", make([]byte, api.MaxRoom)), api.OK)
	want(t, "behind it", f.Append("a", []byte("x")), api.ErrFull)
	if f.Used() != api.MaxRoom {
		t.Errorf("Used: %d", f.Used())
	}
}

func TestP1_2Sync(t *testing.T) {
	f := fs.New(10)
	want(t, "none", f.Sync("a"), api.ErrNone)
	want(t, "a bad name", f.Sync(""), api.ErrNone)
	put(t, f, "a", "", "abc")
	put(t, f, "b", "", "xyz")
	want(t, "Sync", f.Sync("a"), api.OK)
	f.Append("a", []byte("d"))
	f.Crash(nil)
	holds(t, f, "a", "abc")
	holds(t, f, "b", "")
}

func TestP1_2Truncate(t *testing.T) {
	f := fs.New(20)
	want(t, "none", f.Truncate("a", -1), api.ErrNone)
	put(t, f, "a", "abcd", "efgh")
	want(t, "below 0", f.Truncate("a", -1), api.ErrRange)
	want(t, "above", f.Truncate("a", 9), api.ErrRange)
	want(t, "to the whole", f.Truncate("a", 8), api.OK)
	holds(t, f, "a", "abcdefgh")
	want(t, "above what is synced", f.Truncate("a", 6), api.OK)
	holds(t, f, "a", "abcdef")
	c := f.Copy()
	c.Crash(nil)
	holds(t, c, "a", "abcd")
	want(t, "below what is synced", f.Truncate("a", 2), api.OK)
	f.Append("a", []byte("XY"))
	holds(t, f, "a", "abXY")
	c = f.Copy()
	c.Crash(nil)
	holds(t, c, "a", "ab")
	want(t, "to nothing", f.Truncate("a", 0), api.OK)
	holds(t, f, "a", "")
	want(t, "above nothing", f.Truncate("a", 1), api.ErrRange)
}

func TestP1_2Rename(t *testing.T) {
	f := fs.New(30)
	put(t, f, "a", "abc", "de")
	put(t, f, "b", "hello", "")
	want(t, "none, to a bad name", f.Rename("z", "Z"), api.ErrNone)
	want(t, "none, to itself", f.Rename("z", "z"), api.ErrNone)
	want(t, "to a bad name", f.Rename("a", "/a"), api.ErrName)
	want(t, "to no name", f.Rename("a", ""), api.ErrName)
	want(t, "to a new name", f.Rename("a", "c"), api.OK)
	gone(t, f, "a")
	holds(t, f, "c", "abcde")
	n := f.Steps()
	want(t, "to itself", f.Rename("c", "c"), api.OK)
	if f.Steps() != n+1 || f.Used() != 10 {
		t.Errorf("to itself: %d steps, %d used", f.Steps()-n, f.Used())
	}
	holds(t, f, "c", "abcde")
	want(t, "over another one", f.Rename("c", "b"), api.OK)
	gone(t, f, "c")
	holds(t, f, "b", "abcde")
	if f.Used() != 5 {
		t.Errorf("Used: %d", f.Used())
	}
	f.Crash(nil)
	holds(t, f, "b", "abc")
	gone(t, f, "a")
}

func TestP1_2Remove(t *testing.T) {
	f := fs.New(5)
	want(t, "none", f.Remove("a"), api.ErrNone)
	put(t, f, "a", "abc", "de")
	want(t, "Remove", f.Remove("a"), api.OK)
	gone(t, f, "a")
	want(t, "again", f.Remove("a"), api.ErrNone)
	f.Crash(all)
	gone(t, f, "a")
	put(t, f, "a", "", "12345")
	f.Crash(nil)
	holds(t, f, "a", "")
}

func TestP1_3Names(t *testing.T) {
	f := fs.New(10)
	for _, name := range []string{"b/c", "b", "bc", "a", "b-", "b.", "b0", "10", "2"} {
		want(t, name, f.Create(name), api.OK)
	}
	for front, asked := range map[string]string{
		"":     "10 2 a b b- b. b/c b0 bc",
		"b":    "b b- b. b/c b0 bc",
		"b/":   "b/c",
		"b/c":  "b/c",
		"b/cd": "",
		"B":    "",
		"\xff": "",
	} {
		if l := strings.Join(f.Names(front), " "); l != asked {
			t.Errorf("Names(%q): %q, not %q", front, l, asked)
		}
	}
	if len(fs.New(1).Names("")) != 0 {
		t.Error("an empty one has names")
	}
}

func TestP1_3Down(t *testing.T) {
	f := fs.New(10)
	put(t, f, "a", "abc", "d")
	f.Arm(1)
	want(t, "Sync", f.Sync("a"), api.ErrDown)
	holds(t, f, "a", "abcd")
	gone(t, f, "b")
	if !slices.Equal(f.Names(""), []string{"a"}) || f.Used() != 4 || f.Room() != 10 {
		t.Errorf("down: %v, %d, %d", f.Names(""), f.Used(), f.Room())
	}
}

func TestP1_4ArmEachKind(t *testing.T) {
	kinds := map[string]func(*fs.FS) api.Errno{
		"Create":             func(f *fs.FS) api.Errno { return f.Create("z") },
		"Append":             func(f *fs.FS) api.Errno { return f.Append("a", []byte("x")) },
		"Append of nothing":  func(f *fs.FS) api.Errno { return f.Append("a", nil) },
		"Sync":               func(f *fs.FS) api.Errno { return f.Sync("a") },
		"Truncate":           func(f *fs.FS) api.Errno { return f.Truncate("a", 1) },
		"Truncate to itself": func(f *fs.FS) api.Errno { return f.Truncate("a", 4) },
		"Rename":             func(f *fs.FS) api.Errno { return f.Rename("a", "b") },
		"Rename to itself":   func(f *fs.FS) api.Errno { return f.Rename("a", "a") },
		"Remove":             func(f *fs.FS) api.Errno { return f.Remove("a") },
	}
	for what, do := range kinds {
		f := fs.New(10)
		put(t, f, "a", "abc", "d")
		put(t, f, "b", "xy", "")
		n := f.Steps()
		f.Arm(1)
		want(t, what, do(f), api.ErrDown)
		if !f.Down() || f.Steps() != n || f.Used() != 6 || !slices.Equal(f.Names(""), []string{"a", "b"}) {
			t.Errorf("%s: it did something", what)
		}
		want(t, what+", down", do(f), api.ErrDown)
		holds(t, f, "a", "abcd")
		f.Crash(nil)
		holds(t, f, "a", "abc")
		holds(t, f, "b", "xy")
	}
}

func TestP1_4WrongWritesDoNotCount(t *testing.T) {
	f := fs.New(4)
	put(t, f, "a", "abc", "d")
	n := f.Steps()
	f.Arm(2)
	want(t, "Create", f.Create(""), api.ErrName)
	want(t, "Create", f.Create("a"), api.ErrThere)
	want(t, "Append", f.Append("b", nil), api.ErrNone)
	want(t, "Append", f.Append("a", []byte("x")), api.ErrFull)
	want(t, "Sync", f.Sync("b"), api.ErrNone)
	want(t, "Truncate", f.Truncate("b", 0), api.ErrNone)
	want(t, "Truncate", f.Truncate("a", 5), api.ErrRange)
	want(t, "Rename", f.Rename("b", "c"), api.ErrNone)
	want(t, "Rename", f.Rename("a", "A"), api.ErrName)
	want(t, "Remove", f.Remove("b"), api.ErrNone)
	if f.Down() || f.Steps() != n {
		t.Errorf("%v, %d", f.Down(), f.Steps()-n)
	}
	want(t, "the first", f.Sync("a"), api.OK)
	want(t, "the second", f.Sync("a"), api.ErrDown)
	if !f.Down() || f.Steps() != n+1 {
		t.Errorf("%v, %d", f.Down(), f.Steps()-n)
	}
}

func TestP1_4DownAheadOfAll(t *testing.T) {
	f := fs.New(4)
	put(t, f, "a", "abcd", "")
	f.Arm(1)
	f.Sync("a")
	for i, e := range []api.Errno{f.Create(""), f.Create("a"), f.Append("b", nil), f.Append("a", []byte("x")), f.Sync("b"), f.Truncate("b", 0), f.Truncate("a", -1), f.Rename("b", "A"), f.Rename("a", "A"), f.Remove("b")} {
		want(t, strconv.Itoa(i), e, api.ErrDown)
	}
}

func TestP1_4ArmAnew(t *testing.T) {
	f := fs.New(4)
	put(t, f, "a", "abc", "")
	for _, n := range []int{0, -1, -1 << 40} {
		f.Arm(1)
		f.Arm(n)
		want(t, "not armed", f.Sync("a"), api.OK)
	}
	f.Arm(1)
	f.Arm(3)
	want(t, "first", f.Sync("a"), api.OK)
	want(t, "second", f.Sync("a"), api.OK)
	f.Arm(2)
	want(t, "first anew", f.Sync("a"), api.OK)
	want(t, "second anew", f.Sync("a"), api.ErrDown)
	f.Arm(0)
	f.Arm(5)
	if !f.Down() {
		t.Error("Arm took it up")
	}
	want(t, "down", f.Sync("a"), api.ErrDown)
}

func TestP1_4Steps(t *testing.T) {
	f := fs.New(10)
	for i, e := range []api.Errno{f.Create("a"), f.Append("a", []byte("ab")), f.Append("a", nil), f.Sync("a"), f.Truncate("a", 1), f.Rename("a", "b"), f.Rename("b", "b"), f.Remove("b")} {
		want(t, strconv.Itoa(i), e, api.OK)
	}
	f.Read("b")
	f.Names("")
	f.Crash(nil)
	f.Arm(0)
	if f.Steps() != 8 {
		t.Errorf("Steps: %d", f.Steps())
	}
}

func TestP1_5Keep(t *testing.T) {
	for _, c := range []struct {
		keep  int
		asked string
	}{{-1 << 62, "abc"}, {-1, "abc"}, {0, "abc"}, {1, "abcd"}, {3, "abcdef"}, {4, "abcdefg"}, {5, "abcdefg"}, {1 << 62, "abcdefg"}} {
		f := fs.New(10)
		put(t, f, "a", "abc", "defg")
		f.Crash(func(string, int) int { return c.keep })
		holds(t, f, "a", c.asked)
		if f.Used() != len(c.asked) {
			t.Errorf("keeping %d: %d used", c.keep, f.Used())
		}
	}
}

func TestP1_5WhoIsAsked(t *testing.T) {
	f := fs.New(100)
	put(t, f, "c", "", "12")
	put(t, f, "b", "x", "")
	put(t, f, "b/a", "xy", "345")
	put(t, f, "a", "", "6")
	put(t, f, "e", "", "")
	var asked []string
	f.Crash(func(name string, n int) int {
		asked = append(asked, name+" "+strconv.Itoa(n))
		return n - 1
	})
	if !slices.Equal(asked, []string{"a 1", "b/a 3", "c 2"}) {
		t.Errorf("asked: %v", asked)
	}
	for name, bytes := range map[string]string{"a": "", "b": "x", "b/a": "xy34", "c": "1", "e": ""} {
		holds(t, f, name, bytes)
	}
	f.Crash(func(string, int) int {
		t.Error("asked, though all is synced")
		return 0
	})
}

func TestP1_5Up(t *testing.T) {
	f := fs.New(10)
	put(t, f, "a", "abc", "")
	f.Arm(1)
	f.Sync("a")
	f.Crash(nil)
	if f.Down() {
		t.Error("down behind a crash")
	}
	want(t, "up", f.Append("a", []byte("d")), api.OK)
	f.Arm(1)
	f.Crash(nil)
	want(t, "not armed", f.Sync("a"), api.OK)
	holds(t, f, "a", "abc")
}

func TestP1_5KeepThatPanics(t *testing.T) {
	f := fs.New(10)
	put(t, f, "a", "abc", "d")
	put(t, f, "b", "", "xy")
	f.Crash(func(name string, n int) int {
		if name == "a" {
			panic("no")
		}
		return n
	})
	holds(t, f, "a", "abc")
	holds(t, f, "b", "xy")
	if f.Down() || f.Used() != 5 {
		t.Errorf("%v, %d", f.Down(), f.Used())
	}
}

func TestP1_5KeepThatCallsBack(t *testing.T) {
	f := fs.New(10)
	put(t, f, "a", "abc", "d")
	put(t, f, "b", "", "xy")
	n := f.Steps()
	var keep func(string, int) int
	keep = func(name string, n int) int {
		if len(f.Names("")) != 2 {
			t.Error("a file is gone")
		}
		for i, e := range []api.Errno{f.Create("c"), f.Append("b", []byte("z")), f.Sync("b"), f.Truncate("a", 0), f.Rename("a", "b"), f.Remove("b")} {
			want(t, strconv.Itoa(i), e, api.ErrDown)
		}
		f.Crash(keep)
		f.Arm(1)
		c := f.Copy()
		c.Crash(nil)
		want(t, "the copy", c.Sync("a"), api.OK)
		return 1
	}
	f.Crash(keep)
	holds(t, f, "a", "abcd")
	holds(t, f, "b", "x")
	if f.Down() || f.Steps() != n || f.Used() != 5 {
		t.Errorf("%v, %d, %d", f.Down(), f.Steps()-n, f.Used())
	}
	want(t, "not armed", f.Sync("a"), api.OK)
}

func TestP1_6Copy(t *testing.T) {
	f := fs.New(20)
	put(t, f, "a", "abc", "de")
	put(t, f, "b", "x", "")
	c := f.Copy()
	if c.Room() != 20 || c.Used() != f.Used() || c.Steps() != f.Steps() || c.Down() || !slices.Equal(c.Names(""), f.Names("")) {
		t.Error("the copy is another one")
	}
	want(t, "Append", c.Append("a", []byte("f")), api.OK)
	want(t, "Append", f.Append("a", []byte("g")), api.OK)
	holds(t, c, "a", "abcdef")
	holds(t, f, "a", "abcdeg")
	want(t, "Truncate", f.Truncate("a", 1), api.OK)
	want(t, "Append", f.Append("a", []byte("ZZZZ")), api.OK)
	holds(t, c, "a", "abcdef")
	want(t, "Remove", c.Remove("b"), api.OK)
	want(t, "Create", c.Create("n"), api.OK)
	holds(t, f, "b", "x")
	gone(t, f, "n")
	want(t, "Sync", f.Sync("a"), api.OK)
	c.Crash(nil)
	holds(t, c, "a", "abc")
	holds(t, f, "a", "aZZZZ")
}

func TestP1_6CopyOfTheArmedAndTheDown(t *testing.T) {
	f := fs.New(20)
	put(t, f, "a", "abc", "de")
	f.Arm(2)
	c := f.Copy()
	for _, one := range []*fs.FS{f, c} {
		want(t, "first", one.Sync("a"), api.OK)
		want(t, "second", one.Sync("a"), api.ErrDown)
	}
	d := f.Copy()
	if !d.Down() {
		t.Error("the copy is not down")
	}
	d.Crash(nil)
	if d.Down() || !f.Down() {
		t.Error("a crash of the copy took the first one up")
	}
	want(t, "up", d.Sync("a"), api.OK)
	want(t, "down", f.Sync("a"), api.ErrDown)
}

func TestP1_6Memory(t *testing.T) {
	f := fs.New(20)
	put(t, f, "a", "abc", "")
	b := []byte("de....")
	want(t, "Append", f.Append("a", b[:2]), api.OK)
	if string(b) != "de...." {
		t.Errorf("what was handed in is %q", b)
	}
	copy(b, "XXXXXX")
	holds(t, f, "a", "abcde")
	got, _ := f.Read("a")
	other, _ := f.Read("a")
	got = got[:cap(got)]
	for i := range got {
		got[i] = 'Y'
	}
	if string(other) != "abcde" {
		t.Errorf("two answers share memory: %q", other)
	}
	holds(t, f, "a", "abcde")
	names := f.Names("")
	names[0] = "z"
	if !slices.Equal(f.Names(""), []string{"a"}) {
		t.Errorf("Names: %v", f.Names(""))
	}
	f.Truncate("a", 2)
	got, _ = f.Read("a")
	if bytes.Contains(got[:cap(got)], []byte("c")) {
		t.Errorf("spare room tells what was cut: %q", got[:cap(got)])
	}
}

func TestP0_1NoFileSystem(t *testing.T) {
	var none *fs.FS
	for i, e := range []api.Errno{none.Create("a"), none.Append("a", nil), none.Sync("a"), none.Truncate("a", 0), none.Rename("a", "b"), none.Remove("a")} {
		want(t, strconv.Itoa(i), e, api.ErrDown)
	}
	none.Arm(1)
	none.Crash(all)
	gone(t, none, "a")
	if len(none.Names("")) != 0 || none.Used() != 0 || none.Room() != 0 || none.Steps() != 0 || !none.Down() || none.Copy() != nil {
		t.Error("a nil one tells something")
	}
	var zero fs.FS
	want(t, "Create", zero.Create("a"), api.OK)
	want(t, "Append", zero.Append("a", []byte("x")), api.ErrFull)
	want(t, "Rename", zero.Rename("a", "b"), api.OK)
}
