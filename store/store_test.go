package store_test

import (
	"math/rand/v2"
	"slices"
	"strconv"
	"testing"

	"exchequer/api"
	"exchequer/fs"
	"exchequer/store"
	"exchequer/table"
)

func TestP4_0Example(t *testing.T) {
	f := fs.New(10000)
	s := opened(t, f)
	number(t, "Seq", s.Seq(), 0)
	write(t, s, put("a", "1"), put("b", "2"))
	write(t, s, drop("a"), put("c", "3"))
	text(t, "two batches", all(s), "2: b=2 c=3 ")
	want(t, "a key twice", s.Write([]store.Change{put("a", "1"), put("a", "2")}), api.ErrTwice)
	want(t, "an empty key", s.Write([]store.Change{put("", "")}), api.ErrName)
	kept(t, s)
	names(t, "Checkpoint", f, "s/base-00000001", "s/log/00000002", "s/manifest")
	f.Crash(nil)
	text(t, "Open again", all(opened(t, f)), "2: b=2 c=3 ")
}

// TestP0_1NoStore calls what Open gives beside an error, and what nobody opened.
func TestP0_1NoStore(t *testing.T) {
	for _, s := range []*store.Store{nil, {}} {
		text(t, "no store", all(s), "0: ")
		text(t, "no store", told(s.Range("", "z"))+told(s.Snapshot().All()), "")
		number(t, "no store", s.Len()+s.Snapshot().Len(), 0)
		if v, is := s.Get("a"); v != "" || is {
			t.Errorf("no store has %q", v)
		}
		want(t, "Write", s.Write([]store.Change{put("a", "1")}), api.ErrState)
		want(t, "Write of nothing", s.Write(nil), api.ErrState)
		want(t, "Checkpoint", s.Checkpoint(), api.ErrState)
		s.All()(nil)
		s.Range("a", "b")(nil)
	}
}

func TestP4_2Write(t *testing.T) {
	f := roomy()
	s := opened(t, f)
	// A key that isn't there is dropped; one that is, is written anew.
	write(t, s, drop("a"))
	text(t, "a drop of what is not there", all(s), "1: ")
	write(t, s, put("b", "1"), drop("c"), put("a", ""))
	write(t, s, put("b", "2"))
	text(t, "writes", all(s), "3: a= b=2 ")
	write(t, s, store.Change{Key: "b", Value: "not looked at", Drop: true})
	text(t, "a drop", all(s), "4: a= ")
	number(t, "Len", s.Len(), 1)
	was := picture(f)
	want(t, "nothing", s.Write(nil), api.OK)
	want(t, "nothing", s.Write([]store.Change{}), api.OK)
	text(t, "nothing", picture(f), was)
	text(t, "nothing", all(s), "4: a= ")
	asked := framed(batch(1, drop("a")), batch(2, put("b", "1"), drop("c"), put("a", "")), batch(3, put("b", "2")), batch(4, drop("b")))
	var log []byte
	for _, name := range f.Names("s/log/") {
		log = append(log, read(t, f, name)...)
	}
	text(t, "the log", string(log), string(asked))
}

func TestP4_2Errors(t *testing.T) {
	f := roomy()
	s := opened(t, f)
	write(t, s, put("a", "1"))
	was := picture(f)
	ok, name := put("b", "2"), put("", "v")
	for i, x := range []struct {
		l []store.Change
		e api.Errno
	}{
		{append(several(api.MaxBatch, ""), name), api.ErrMany},
		{[]store.Change{ok, name, put("c", long(api.MaxValue+1))}, api.ErrName},
		{[]store.Change{ok, put(long(api.MaxKey+1), "")}, api.ErrName},
		{[]store.Change{ok, put("c", long(api.MaxValue+1)), name}, api.ErrLong},
		{[]store.Change{ok, put("c", "3"), drop("b")}, api.ErrTwice},
		{recordOf(api.MaxRecord + 1), api.ErrLong},
	} {
		want(t, "Write "+strconv.Itoa(i), s.Write(x.l), x.e)
	}
	text(t, "what was refused", all(s), "1: a=1 ")
	text(t, "what was refused", picture(f), was)
}

func TestP4_2Limits(t *testing.T) {
	f := roomy()
	s := opened(t, f)
	for _, l := range [][]store.Change{
		several(api.MaxBatch, "v"),
		recordOf(api.MaxRecord),
		{put("k", ""), put(long(api.MaxKey), long(api.MaxValue)), {Key: "d", Value: long(api.MaxValue + 1), Drop: true}},
	} {
		write(t, s, l...)
	}
	f.Crash(nil)
	if all(opened(t, f)) != all(s) || s.Seq() != 3 {
		t.Error("batches at their limits are not found again")
	}
}

// TestP4_2Durable crashes behind each batch, and keeps nothing that was not synced.
func TestP4_2Durable(t *testing.T) {
	f := roomy()
	s := opened(t, f)
	for i := range 20 {
		write(t, s, put("k"+strconv.Itoa(i%7), strconv.Itoa(i)), drop("k"+strconv.Itoa(i%5+7)))
		f.Crash(nil)
		text(t, "behind a crash", all(opened(t, f)), all(s))
	}
}

func TestP4_2Full(t *testing.T) {
	f := fs.New(200)
	s := opened(t, f)
	write(t, s, put("a", long(40)))
	was, files := all(s), files(f)
	want(t, "Write", s.Write([]store.Change{drop("a"), put("b", long(200))}), api.ErrFull)
	text(t, "half a batch", all(s), was)
	text(t, "half a batch behind Open", all(opened(t, f.Copy())), was)
	if f.Used() != len(files)-len(",s/log/00000001=") {
		t.Errorf("something of it is left: %d bytes", f.Used())
	}
	write(t, s, put("c", "1"))
	text(t, "it goes on", all(opened(t, f)), "2: a="+long(40)+" c=1 ")
	want(t, "Write of nothing", s.Write(nil), api.OK)
}

// TestP4_2NoSegment writes where no further segment may be: wal's error is handed on.
func TestP4_2NoSegment(t *testing.T) {
	f := roomy()
	lay(t, f, "s/log/99999999", framed(batch(1, put("a", long(64)))))
	s := opened(t, f)
	was, told := picture(f), all(s)
	want(t, "Write", s.Write([]store.Change{put("b", "2")}), api.ErrRange)
	text(t, "Write", picture(f), was)
	text(t, "Write", all(s), told)
	was = files(f)
	want(t, "Checkpoint", s.Checkpoint(), api.ErrRange)
	text(t, "Checkpoint", files(f), was)
	text(t, "Checkpoint", all(s), told)
	want(t, "it is not stuck", s.Write(nil), api.OK)
}

func TestP4_2Stuck(t *testing.T) {
	for arm := 1; arm <= 3; arm++ {
		f := roomy()
		s := opened(t, f)
		write(t, s, put("a", long(64)))
		was := all(s)
		f.Arm(arm)
		// The first segment is full: the writes are the next one's making, the record's, its sync.
		want(t, "Write", s.Write([]store.Change{put("b", "2")}), api.ErrDown)
		for range 2 {
			want(t, "Write", s.Write([]store.Change{put("b", "2")}), api.ErrState)
			want(t, "Write of nothing", s.Write(nil), api.ErrState)
			want(t, "Write of what may not be", s.Write([]store.Change{put("", "")}), api.ErrState)
			want(t, "Checkpoint", s.Checkpoint(), api.ErrState)
			// It stays stuck, whether the file system is up again or not.
			f.Crash(nil)
		}
		text(t, "what a stuck one tells", all(s), was)
		x := opened(t, f)
		text(t, "a new one", all(x), was)
		write(t, x, put("c", "3"))
	}
}

// TestP4_2DownMeanwhile writes where others brought the file system down.
func TestP4_2DownMeanwhile(t *testing.T) {
	f := roomy()
	s := opened(t, f)
	f.Arm(1)
	want(t, "Create", f.Create("x"), api.ErrDown)
	want(t, "Write of nothing", s.Write(nil), api.OK)
	want(t, "Write of what may not be", s.Write([]store.Change{put("", "")}), api.ErrName)
	want(t, "Write", s.Write([]store.Change{put("a", "1")}), api.ErrDown)
	want(t, "Write", s.Write(nil), api.ErrState)
	text(t, "Write", all(s), "0: ")
}

// TestP4_3AsATable holds a store against a table to which the same is done.
func TestP4_3AsATable(t *testing.T) {
	r := rand.New(rand.NewPCG(3, 4))
	key := func() string { return strconv.Itoa(r.IntN(40)) }
	s, x := opened(t, roomy()), table.New[string, string]()
	for i := range 400 {
		var l []store.Change
		for n := range r.IntN(5) + 1 {
			k, v := strconv.Itoa(r.IntN(8)*5+n), strconv.Itoa(i)
			if r.IntN(3) == 0 {
				l = append(l, drop(k))
				x.Delete(k)
			} else {
				l = append(l, put(k, v))
				x.Put(k, v)
			}
		}
		write(t, s, l...)
		number(t, "Seq", s.Seq(), i+1)
		number(t, "Len", s.Len(), x.Len())
		text(t, "All", told(s.All()), told(x.All()))
		text(t, "Snapshot", told(s.Snapshot().All()), told(x.All()))
		from, to := key(), key()
		text(t, "Range", told(s.Range(from, to)), told(x.Range(from, to)))
		text(t, "Range of all", told(s.Range("", "~")), told(x.All()))
		v, is := s.Get(from)
		if asked, there := x.Get(from); v != asked || is != there {
			t.Errorf("Get(%s): %q, %v, not %q, %v", from, v, is, asked, there)
		}
		number(t, "Version", s.Snapshot().Version(), x.Version())
	}
}

func TestP4_3GoingOver(t *testing.T) {
	s := opened(t, roomy())
	write(t, s, put("a", "1"), put("b", "2"), put("c", "3"))
	pairs, some := s.All(), s.Range("a", "c")
	snap := s.Snapshot()
	seen := ""
	for k, v := range pairs {
		seen += k + v
		write(t, s, drop(k), put(k+k, v))
		kept(t, s)
	}
	text(t, "All that is written to meanwhile", seen, "a1b2c3")
	text(t, "All again", told(pairs), "aa=1 bb=2 cc=3 ")
	text(t, "Range behind it", told(some), "aa=1 bb=2 ")
	text(t, "Snapshot", told(snap.All()), "a=1 b=2 c=3 ")
	number(t, "Snapshot", snap.Len(), 3)
	for k := range s.All() {
		seen = k
		break
	}
	text(t, "leaving early", seen, "aa")
}

func TestP4_5NothingIsKept(t *testing.T) {
	s := opened(t, roomy())
	l := []store.Change{put("a", "1"), {Key: "b", Value: "x", Drop: true}, put("c", "3")}
	given := slices.Clone(l)
	write(t, s, l...)
	if !slices.Equal(l, given) {
		t.Errorf("P4.5: Write wrote to what was handed in: %v", l)
	}
	clear(l)
	text(t, "P4.5", all(s), "1: a=1 c=3 ")
	// Texts whose bytes are written to behind the call, as their owner alone could.
	key, value := []byte("d"), []byte("4")
	write(t, s, put(over(key), over(value)))
	key[0], value[0] = 'x', 'x'
	text(t, "P4.5: texts", all(s), "2: a=1 c=3 d=4 ")
}

func TestP4_5OtherFiles(t *testing.T) {
	f := roomy()
	others := []string{"s", "s/other", "s/base-1", "s/log/1", "s/nextt", "t/next", "t/base-00000001", "t/manifest"}
	for _, name := range others {
		lay(t, f, name, []byte("of "+name))
	}
	want(t, "Append", f.Append("s/other", []byte(", not synced")), api.OK)
	s := opened(t, f)
	for i := range 5 {
		write(t, s, put("k"+strconv.Itoa(i), long(30)))
		kept(t, s)
		s = opened(t, f)
	}
	text(t, "P4.5", string(read(t, f, "s/other")), "of s/other, not synced")
	f.Crash(nil)
	for _, name := range others {
		text(t, "P4.5", string(read(t, f, name)), "of "+name)
	}
	number(t, "P4.5: files", len(f.Names("")), len(others)+3)
}

// TestP4_5TwoDirectories has two stores on one file system.
func TestP4_5TwoDirectories(t *testing.T) {
	f := roomy()
	s := opened(t, f)
	x, e := store.Open(f, "s/s", store.Opts{Segment: 16})
	want(t, "Open", e, api.OK)
	for i := range 6 {
		write(t, s, put("a", strconv.Itoa(i)))
		write(t, x, put("b", strconv.Itoa(i)))
		if i == 2 {
			kept(t, x)
		}
		if i == 4 {
			kept(t, s)
		}
	}
	f.Crash(nil)
	text(t, "one", all(opened(t, f)), "6: a=5 ")
	x, e = store.Open(f, "s/s", store.Opts{Segment: 16})
	want(t, "Open", e, api.OK)
	text(t, "the other one", all(x), "6: b=5 ")
}
