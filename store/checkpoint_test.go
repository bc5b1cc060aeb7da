package store_test

import (
	"slices"
	"strconv"
	"testing"

	"exchequer/api"
	"exchequer/fs"
	"exchequer/store"
)

func TestP4_4Files(t *testing.T) {
	f := roomy()
	s := opened(t, f)
	kept(t, s)
	names(t, "a checkpoint of nothing", f, "s/base-00000001", "s/log/00000002", "s/manifest")
	text(t, "a checkpoint of nothing", string(read(t, f, "s/base-00000001")), string(framed(eight(0), nil)))
	text(t, "its manifest", string(read(t, f, "s/manifest")), string(manifest(1, 2)))
	text(t, "it is opened", all(opened(t, f)), "0: ")
	write(t, s, put("b", "2"), put("a", ""))
	write(t, s, put("c", "3"), drop("b"))
	kept(t, s)
	names(t, "another one", f, "s/base-00000002", "s/log/00000003", "s/manifest")
	asked := framed(eight(2), batch(2, put("a", ""), put("c", "3")), nil)
	text(t, "another one", string(read(t, f, "s/base-00000002")), string(asked))
	text(t, "its manifest", string(read(t, f, "s/manifest")), string(manifest(2, 3)))
	text(t, "its log", string(read(t, f, "s/log/00000003")), "")
	write(t, s, drop("a"), drop("c"))
	kept(t, s)
	text(t, "no pairs", string(read(t, f, "s/base-00000003")), string(framed(eight(3), nil)))
	f.Crash(nil)
	text(t, "no pairs", all(opened(t, f)), "3: ")
	number(t, "all that is there", f.Used(), len(framed(eight(3), nil))+len(manifest(3, 4)))
}

// TestP4_4Parts writes pairs of which a batch has as many as may be: by their number, or by their bytes.
func TestP4_4Parts(t *testing.T) {
	record := recordOf(api.MaxRecord)
	last := record[len(record)-1]
	twice := append(slices.Clone(record), recordFrom("l", api.MaxRecord)...)
	over := append(slices.Clone(record), recordFrom("l", api.MaxRecord+1)...)
	for what, x := range map[string]struct {
		pairs []store.Change
		parts []int
	}{
		"as many as may be":         {several(api.MaxBatch, "v"), []int{api.MaxBatch}},
		"one more":                  {several(api.MaxBatch+1, "v"), []int{api.MaxBatch, 1}},
		"three":                     {several(2*api.MaxBatch+7, "v"), []int{api.MaxBatch, api.MaxBatch, 7}},
		"as many bytes as may be":   {record, []int{len(record)}},
		"a byte more":               {append(slices.Clone(record[:len(record)-1]), put(last.Key, last.Value+"x")), []int{len(record) - 1, 1}},
		"as many bytes, twice":      {twice, []int{len(record), len(record)}},
		"a byte more in the second": {over, []int{len(record), len(record) - 1, 1}},
		"a pair more":               {append(slices.Clone(record), put("l", "")), []int{len(record), 1}},
		"the greatest pairs":        {several(40, long(api.MaxValue)), []int{15, 15, 10}},
		"bytes ahead of the number": {several(600, long(2500)), []int{417, 183}},
	} {
		f := roomy()
		s := opened(t, f)
		// Written back to front, and a few at once: the checkpoint has them by rising keys, however they came.
		for l := range slices.Chunk(x.pairs, 13) {
			back := slices.Clone(l)
			slices.Reverse(back)
			write(t, s, back...)
		}
		seq := uint64(s.Seq())
		asked := framed(eight(seq))
		rest := x.pairs
		for _, n := range x.parts {
			asked = append(asked, framed(batch(seq, rest[:n]...))...)
			rest = rest[n:]
		}
		kept(t, s)
		text(t, what, string(read(t, f, "s/base-00000001")), string(append(asked, framed(nil)...)))
		if all(opened(t, f)) != all(s) || s.Len() != len(x.pairs) {
			t.Errorf("%s: not the same behind Open", what)
		}
	}
}

func TestP4_4Number(t *testing.T) {
	f := begun(t)
	s := opened(t, f)
	lay(t, f, "s/base-00000041", nil)
	others := []string{"s/base-777777777", "s/base-zzzzzzzz"}
	for _, name := range others {
		lay(t, f, name, nil)
	}
	kept(t, s)
	names(t, "one above the greatest", f, "s/base-00000042", others[0], others[1], "s/log/00000003", "s/manifest")
	text(t, "one above the greatest", all(opened(t, f)), "3: a=1 b=2 c=3 ")
	lay(t, f, "s/base-99999998", read(t, f, "s/base-00000042"))
	lay(t, f, "s/manifest", manifest(99999998, 3))
	s = opened(t, f)
	kept(t, s)
	names(t, "the greatest", f, others[0], "s/base-99999999", others[1], "s/log/00000004", "s/manifest")
	was := picture(f)
	want(t, "one above it", s.Checkpoint(), api.ErrRange)
	text(t, "one above it", picture(f), was)
	write(t, s, put("d", "4"))
	text(t, "it goes on", all(opened(t, f)), "4: a=1 b=2 c=3 d=4 ")
}

// notMade makes a checkpoint that finds no room; all is as it was, and the store goes on.
func notMade(t *testing.T, what string, f *fs.FS, s *store.Store) {
	t.Helper()
	was, told := f.Names(""), all(s)
	used := f.Used()
	want(t, what, s.Checkpoint(), api.ErrFull)
	// The log may have one segment more.
	left := slices.DeleteFunc(f.Names(""), func(name string) bool {
		n, e := f.Size(name)
		return !slices.Contains(was, name) && name[:6] == "s/log/" && n == 0 && e == api.OK
	})
	if !slices.Equal(left, was) || f.Used() != used || len(f.Names("")) > len(was)+1 {
		t.Errorf("%s: files: %v, not %v", what, f.Names(""), was)
	}
	text(t, what, all(s), told)
	number(t, what, opened(t, f.Copy()).Seq(), s.Seq())
	text(t, what, all(opened(t, f.Copy())), told)
}

// TestP4_4FullRoom makes a checkpoint with each number of bytes that are free, the second time beside one that is there.
func TestP4_4FullRoom(t *testing.T) {
	checkpoint := len(framed(eight(2), batch(2, put("a", long(30)), put("b", "2")), nil))
	needed := checkpoint + len(manifest(1, 2))
	for _, ahead := range []bool{false, true} {
		for free := range needed + 3 {
			f := fs.New(1000)
			s := opened(t, f)
			if ahead {
				kept(t, s)
			}
			write(t, s, put("a", long(30)))
			write(t, s, put("b", "2"))
			lay(t, f, "filler", make([]byte, 1000-f.Used()-free))
			if free < needed {
				notMade(t, strconv.Itoa(free)+" bytes free", f, s)
				notMade(t, strconv.Itoa(free)+" bytes free, again", f, s)
				want(t, "Truncate", f.Truncate("filler", 0), api.OK)
			}
			kept(t, s)
			write(t, s, put("c", "3"))
			f.Crash(nil)
			text(t, "with room", all(opened(t, f)), "3: a="+long(30)+" b=2 c=3 ")
		}
	}
}

// TestP4_4FullFiles makes a checkpoint with each number of files that may still be made.
func TestP4_4FullFiles(t *testing.T) {
	for _, ahead := range []bool{false, true} {
		for free := range 4 {
			f := roomy()
			s := opened(t, f)
			if ahead {
				kept(t, s)
			}
			write(t, s, put("a", "1"))
			for i := range api.MaxFiles - free - len(f.Names("")) {
				lay(t, f, "x"+strconv.Itoa(i), nil)
			}
			if free < 3 {
				notMade(t, strconv.Itoa(free)+" files", f, s)
				notMade(t, strconv.Itoa(free)+" files, again", f, s)
				for i := range 3 {
					want(t, "Remove", f.Remove("x"+strconv.Itoa(i)), api.OK)
				}
			}
			kept(t, s)
			write(t, s, put("b", "2"))
			f.Crash(nil)
			text(t, "with room", all(opened(t, f)), "2: a=1 b=2 ")
		}
	}
}

// TestP4_4FullAndDown lets the removal of what found no room fail as well.
func TestP4_4FullAndDown(t *testing.T) {
	met := 0
	for free := range 120 {
		for arm := 1; arm <= 12; arm++ {
			f := fs.New(1000)
			s := opened(t, f)
			write(t, s, put("a", long(30)))
			lay(t, f, "filler", make([]byte, 1000-f.Used()-free))
			told := all(s)
			f.Arm(arm)
			e := s.Checkpoint()
			if e == api.ErrDown {
				met++
				want(t, "it is stuck", s.Write(nil), api.ErrState)
				want(t, "it is stuck", s.Checkpoint(), api.ErrState)
			} else if f.Down() || e != api.OK && e != api.ErrFull {
				t.Errorf("%d bytes free, armed %d: %d", free, arm, e)
			}
			f.Crash(nil)
			text(t, "behind it", all(opened(t, f)), told)
			asked := []string{"filler", "s/log/00000001"}
			if e == api.ErrFull && !slices.Equal(f.Names(""), asked) {
				t.Errorf("%d bytes free, armed %d: %v", free, arm, f.Names(""))
			}
		}
	}
	if met == 0 {
		t.Error("never down")
	}
}

// TestP4_4Down lets each write of a checkpoint fail.
func TestP4_4Down(t *testing.T) {
	for arm := 1; ; arm++ {
		f := begun(t)
		s := opened(t, f)
		told := all(s)
		f.Arm(arm)
		e := s.Checkpoint()
		if e == api.OK {
			if arm < 9 {
				t.Errorf("a checkpoint of %d writes", arm-1)
			}
			break
		}
		want(t, "Checkpoint", e, api.ErrDown)
		want(t, "Checkpoint again", s.Checkpoint(), api.ErrState)
		want(t, "Write", s.Write([]store.Change{put("d", "4")}), api.ErrState)
		text(t, "a stuck one", all(s), told)
		f.Crash(nil)
		want(t, "up again", s.Checkpoint(), api.ErrState)
		x := opened(t, f)
		text(t, "a new one", all(x), told)
		number(t, "files", len(f.Names("s/base-")), 1)
		number(t, "files", len(f.Names("s/next")), 0)
		kept(t, x)
		text(t, "another checkpoint", all(opened(t, f)), told)
	}
}

// twins are two stores to which the same is done, but that one of them makes checkpoints.
func twins(t *testing.T, rows int, now func(i int, with, without *store.Store)) (*fs.FS, *fs.FS) {
	t.Helper()
	f, g := roomy(), roomy()
	with, without := opened(t, f), opened(t, g)
	for i := range rows {
		l := []store.Change{put("k"+strconv.Itoa(i*7%11), strconv.Itoa(i)), drop("k" + strconv.Itoa(i*7%11+1))}
		write(t, with, l...)
		write(t, without, l...)
		if i%3 == 0 {
			kept(t, with)
		}
		now(i, with, without)
	}
	return f, g
}

func TestP4_7CheckpointTellsTheSame(t *testing.T) {
	same := func(what string, with, without *store.Store) {
		t.Helper()
		text(t, what, all(with), all(without))
		text(t, what, told(with.Range("k1", "k5")), told(without.Range("k1", "k5")))
		number(t, what, with.Len(), without.Len())
		number(t, what+", Version", with.Snapshot().Version(), without.Snapshot().Version())
	}
	for rows := range 25 {
		f, g := twins(t, rows, func(_ int, with, without *store.Store) { same("now", with, without) })
		f.Crash(nil)
		with, without := opened(t, f), opened(t, g)
		same("behind Open", with, without)
		write(t, with, put("z", "1"))
		write(t, without, put("z", "1"))
		kept(t, with)
		same("behind Open and Write", with, without)
		same("behind Open again", opened(t, f), opened(t, g))
	}
}

func TestP4_7OpenAgain(t *testing.T) {
	f, _ := twins(t, 14, func(int, *store.Store, *store.Store) {})
	for _, torn := range []int{0, 3, 11} {
		g := f.Copy()
		l := g.Names("s/log/")
		want(t, "Append", g.Append(l[len(l)-1], framed(batch(15, put("q", "1")))[:torn]), api.OK)
		lay(t, g, "s/next", []byte("x"))
		g.Crash(func(string, int) int { return 99 })
		s := opened(t, g)
		was := picture(g)
		for range 3 {
			x := opened(t, g)
			text(t, "Open behind Open", all(x), all(s))
			number(t, "Version", x.Snapshot().Version(), s.Snapshot().Version())
			text(t, "Open behind Open", picture(g), was)
		}
		g.Arm(1)
		text(t, "an Open that writes nothing", all(opened(t, g)), all(s))
	}
}
