package store_test

import (
	"math"
	"slices"
	"strconv"
	"testing"

	"exchequer/api"
	"exchequer/fs"
	"exchequer/store"
)

// down is a file system that is down.
func down(t *testing.T) *fs.FS {
	t.Helper()
	f := roomy()
	f.Arm(1)
	want(t, "Create", f.Create("x"), api.ErrDown)
	return f
}

// begun is the file system of a store with a checkpoint of two batches and a batch behind it.
func begun(t *testing.T) *fs.FS {
	t.Helper()
	f := roomy()
	s := opened(t, f)
	write(t, s, put("a", "1"))
	write(t, s, put("b", "2"))
	kept(t, s)
	write(t, s, put("c", "3"))
	names(t, "begun", f, "s/base-00000001", "s/log/00000002", "s/manifest")
	return f
}

func TestP4_1New(t *testing.T) {
	f := roomy()
	s := opened(t, f)
	names(t, "a new one", f, "s/log/00000001")
	text(t, "a new one", all(s), "0: ")
	number(t, "Len", s.Len(), 0)
	if _, is := s.Get(""); is {
		t.Error("a new one has a key")
	}
}

func TestP4_1Arguments(t *testing.T) {
	f := roomy()
	lay(t, f, "s/manifest", []byte("spoilt"))
	spoilt := picture(f)
	for i, x := range []struct {
		f       *fs.FS
		dir     string
		segment int
		e       api.Errno
	}{
		{f, "", 64, api.ErrName},
		{f, "/s", 64, api.ErrName},
		{f, "S", 64, api.ErrName},
		{f, "s\x00", 64, api.ErrName},
		{f, long(87), 64, api.ErrName},
		{f, long(87), 15, api.ErrName},
		{down(t), long(87), 15, api.ErrName},
		{nil, "", 0, api.ErrName},
		{f, "s", 15, api.ErrRange},
		{f, "s", api.MaxRecord + 1, api.ErrRange},
		{f, "s", math.MinInt, api.ErrRange},
		{down(t), "s", 0, api.ErrRange},
		{nil, "s", math.MaxInt, api.ErrRange},
		{down(t), "s", 16, api.ErrDown},
		{nil, "s", 16, api.ErrDown},
		{f, "s", 16, api.ErrCorrupt},
		{roomy(), long(86), 16, api.OK},
		{roomy(), "s/", 16, api.OK},
		{roomy(), "0.a-b/c", api.MaxRecord, api.OK},
	} {
		s, e := store.Open(x.f, x.dir, store.Opts{Segment: x.segment})
		want(t, "Open "+strconv.Itoa(i), e, x.e)
		if (s == nil) != (x.e != api.OK) {
			t.Errorf("Open %d: %v", i, s)
		}
	}
	text(t, "what Open refused", picture(f), spoilt)
}

func TestP4_1DownAheadOfSpoilt(t *testing.T) {
	f := roomy()
	lay(t, f, "s/manifest", []byte("spoilt"))
	f.Arm(1)
	want(t, "Create", f.Create("x"), api.ErrDown)
	refused(t, "down, and spoilt", f, api.ErrDown)
}

func TestP4_1Segment(t *testing.T) {
	f := roomy()
	s, e := store.Open(f, "s", store.Opts{Segment: 16})
	want(t, "Open", e, api.OK)
	write(t, s, put("a", "1"))
	write(t, s, put("b", "2"))
	names(t, "segments of 16 bytes", f, "s/log/00000001", "s/log/00000002")
	write(t, opened(t, f), put("c", "3"))
	names(t, "segments of 64 bytes", f, "s/log/00000001", "s/log/00000002")
	text(t, "both", all(opened(t, f)), "3: a=1 b=2 c=3 ")
}

func TestP4_1Manifest(t *testing.T) {
	f := begun(t)
	good := read(t, f, "s/manifest")
	text(t, "the manifest", string(good), string(manifest(1, 2)))
	flipped := slices.Clone(good)
	flipped[len(flipped)-1] ^= 1
	for what, b := range map[string][]byte{
		"no bytes":                 nil,
		"a byte less":              good[:len(good)-1],
		"a byte behind it":         append(slices.Clone(good), 0),
		"a frame behind it":        append(slices.Clone(good), framed(nil)...),
		"another one behind it":    append(slices.Clone(good), good...),
		"another sum":              flipped,
		"no frame":                 []byte("manifest"),
		"a frame of no bytes":      framed(nil),
		"a frame of 15 bytes":      framed(slices.Concat(eight(1), eight(2)[:7])),
		"a frame of 17 bytes":      framed(slices.Concat(eight(1), eight(2), []byte{0})),
		"segment 0":                manifest(1, 0),
		"segment 0, no checkpoint": manifest(0, 0),
		"no such segment may be":   manifest(1, 100000000),
		"a segment not there":      manifest(1, 3),
		"a segment of 2^63":        manifest(1, 1<<63),
		"the greatest segment":     manifest(1, math.MaxUint64),
		"a checkpoint not there":   manifest(2, 2),
		"no such checkpoint":       manifest(100000000, 2),
		"a checkpoint of 2^63":     manifest(1<<63, 2),
		"the greatest checkpoint":  manifest(math.MaxUint64, 2),
	} {
		g := f.Copy()
		lay(t, g, "s/manifest", b)
		was := picture(g)
		refused(t, "a manifest with "+what, g, api.ErrCorrupt)
		text(t, "behind a manifest with "+what, picture(g), was)
	}
	// Without the checkpoint the records behind it have seqs that are too great.
	g := f.Copy()
	lay(t, g, "s/manifest", manifest(0, 2))
	refused(t, "a manifest that has no checkpoint", g, api.ErrCorrupt)
	want(t, "Remove", g.Remove("s/manifest"), api.OK)
	refused(t, "no manifest", g, api.ErrCorrupt)
}

func TestP4_1ManifestWithoutCheckpoint(t *testing.T) {
	for _, segment := range []uint64{1, 2} {
		f := roomy()
		lay(t, f, "s/manifest", manifest(0, segment))
		lay(t, f, "s/log/00000001", nil)
		lay(t, f, "s/log/00000002", framed(batch(1, put("a", "1"))))
		lay(t, f, "s/base-00000000", []byte("x"))
		lay(t, f, "s/base-00000001", []byte("x"))
		text(t, "no checkpoint", all(opened(t, f)), "1: a=1 ")
		asked := []string{"s/log/00000001", "s/log/00000002", "s/manifest"}
		names(t, "no checkpoint", f, asked[segment-1:]...)
	}
}

// TestP4_1Nothing opens what is spoilt where there is no log yet: it isn't made.
func TestP4_1Nothing(t *testing.T) {
	f := roomy()
	lay(t, f, "s/manifest", manifest(0, 2))
	was := picture(f)
	refused(t, "a manifest without a log", f, api.ErrCorrupt)
	text(t, "a manifest without a log", picture(f), was)
	lay(t, f, "s/manifest", manifest(0, 1))
	text(t, "segment 1, which is made", all(opened(t, f)), "0: ")
	names(t, "segment 1, which is made", f, "s/log/00000001", "s/manifest")
}

func TestP4_1Checkpoint(t *testing.T) {
	a, b, c := put("a", "1"), put("b", "2"), put("c", "3")
	good := framed(eight(2), batch(2, a, b), nil)
	f := begun(t)
	text(t, "the checkpoint", string(read(t, f, "s/base-00000001")), string(good))
	many := several(api.MaxBatch+1, "v")
	for what, wrong := range map[string][]byte{
		"no bytes":                  nil,
		"no end":                    framed(eight(2), batch(2, a, b)),
		"a byte less":               good[:len(good)-1],
		"a byte behind it":          append(slices.Clone(good), 0),
		"an end twice":              append(slices.Clone(good), framed(nil)...),
		"a batch behind the end":    append(slices.Clone(good), framed(batch(2, c))...),
		"an end alone":              framed(nil),
		"a seq alone":               framed(eight(2)),
		"no seq":                    framed(batch(2, a, b), nil),
		"no seq and no pairs":       framed(nil, nil),
		"a seq of 7 bytes":          framed(eight(2)[:7], batch(2, a, b), nil),
		"a seq of 9 bytes":          framed(append(eight(2), 0), batch(2, a, b), nil),
		"a seq of 2^63":             framed(eight(1<<63), nil),
		"another seq in a batch":    framed(eight(2), batch(1, a, b), nil),
		"another seq ahead":         framed(eight(3), batch(2, a, b), nil),
		"pairs with seq 0":          framed(eight(0), batch(0, a, b), nil),
		"pairs of 1 with seq 0":     framed(eight(0), batch(1, a, b), nil),
		"keys that fall":            framed(eight(2), batch(2, b, a), nil),
		"keys that fall by batches": framed(eight(2), batch(2, b), batch(2, a), nil),
		"a key twice":               framed(eight(2), batch(2, a, a, b), nil),
		"a key in two batches":      framed(eight(2), batch(2, a), batch(2, a, b), nil),
		"a drop":                    framed(eight(2), batch(2, a, b, drop("c")), nil),
		"an empty batch":            framed(eight(2), batch(2, a, b), batch(2), nil),
		"two batches for one":       framed(eight(2), batch(2, a), batch(2, b), nil),
		"a batch of too many":       framed(eight(2), batch(2, many...), nil),
		"a first batch of too few":  framed(eight(2), batch(2, many[:1]...), batch(2, many[1:]...), nil),
		"a batch that is none":      framed(eight(2), batch(2, a, b)[1:], nil),
		"a frame that is none":      slices.Concat(framed(eight(2)), framed(batch(2, a, b))[1:], framed(nil)),
	} {
		g := f.Copy()
		lay(t, g, "s/base-00000001", wrong)
		was := picture(g)
		refused(t, "a checkpoint with "+what, g, api.ErrCorrupt)
		text(t, "behind a checkpoint with "+what, picture(g), was)
	}
	want(t, "Remove", f.Remove("s/base-00000001"), api.OK)
	refused(t, "no checkpoint", f, api.ErrCorrupt)
	for _, b := range [][]byte{good, framed(eight(2), nil), framed(eight(2), batch(2, many[:500]...), batch(2, many[500]), nil)} {
		lay(t, f, "s/base-00000001", b)
		number(t, "Seq of what is one", opened(t, f).Seq(), 3)
	}
}

func TestP4_1Records(t *testing.T) {
	f := begun(t)
	c := framed(batch(3, put("c", "3")))
	text(t, "the log", string(read(t, f, "s/log/00000002")), string(c))
	z := func(seq uint64) []byte { return framed(batch(seq, put("z", strconv.Itoa(int(seq))))) }
	empty := framed(batch(3))
	for what, x := range map[string]struct {
		log []byte
		all string
	}{
		"none":                   {nil, "2: a=1 b=2 "},
		"the next":               {c, "3: a=1 b=2 c=3 "},
		"those ahead":            {slices.Concat(z(1), z(2)), "2: a=1 b=2 "},
		"one twice":              {slices.Concat(c, z(3)), "3: a=1 b=2 c=3 "},
		"some that fall":         {slices.Concat(c, z(2), z(1), z(4), z(1)), "4: a=1 b=2 c=3 z=4 "},
		"one without changes":    {slices.Concat(empty, z(4)), "4: a=1 b=2 z=4 "},
		"a drop":                 {framed(batch(3, drop("a"), drop("q"), put("b", "3"))), "3: b=3 "},
		"one torn off":           {append(slices.Clone(c), z(4)[:9]...), "3: a=1 b=2 c=3 "},
		"one that is no batch":   {append(slices.Clone(c), framed([]byte("x"))...), ""},
		"one of no bytes":        {append(slices.Clone(c), framed(nil)...), ""},
		"one of seq 0":           {append(slices.Clone(c), z(0)...), ""},
		"one of a seq of 2^63":   {append(slices.Clone(c), z(1<<63)...), ""},
		"one that is too far on": {append(slices.Clone(c), z(5)...), ""},
		"the first too far on":   {z(4), ""},
		"the greatest seq":       {z(math.MaxInt), ""},
		"no batch, and torn":     {slices.Concat(framed([]byte("x")), c[:9]), ""},
		"too far on, and torn":   {slices.Concat(z(4), c[:9]), ""},
	} {
		g := f.Copy()
		lay(t, g, "s/log/00000002", x.log)
		was := picture(g)
		if x.all == "" {
			refused(t, "a log with "+what, g, api.ErrCorrupt)
			text(t, "behind a log with "+what, picture(g), was)
		} else {
			text(t, "a log with "+what, all(opened(t, g)), x.all)
		}
	}
}

func TestP4_1RecordsWithoutManifest(t *testing.T) {
	f := roomy()
	one, two := framed(batch(1, put("a", "1"))), framed(batch(2, put("a", "2")))
	lay(t, f, "s/log/00000007", slices.Concat(one, two))
	lay(t, f, "s/log/00000008", slices.Concat(two, framed(batch(3, put("b", "3")))))
	text(t, "all segments count", all(opened(t, f)), "3: a=2 b=3 ")
	names(t, "all segments count", f, "s/log/00000007", "s/log/00000008")
	lay(t, f, "s/log/00000007", two)
	refused(t, "a first seq of 2", f, api.ErrCorrupt)
}

// TestP4_1GreatestSeq opens a store that has done as many batches as there are numbers.
func TestP4_1GreatestSeq(t *testing.T) {
	f := roomy()
	lay(t, f, "s/manifest", manifest(1, 1))
	lay(t, f, "s/base-00000001", framed(eight(math.MaxInt), batch(math.MaxInt, put("a", "1")), nil))
	lay(t, f, "s/log/00000001", framed(batch(1, put("b", "2")), batch(math.MaxInt)))
	s := opened(t, f)
	text(t, "the greatest seq", all(s), strconv.Itoa(math.MaxInt)+": a=1 ")
	was := picture(f)
	want(t, "Write behind it", s.Write([]store.Change{put("c", "3")}), api.ErrForm)
	want(t, "a batch that may not be", s.Write([]store.Change{put("", "3")}), api.ErrName)
	text(t, "Write behind it", all(s), strconv.Itoa(math.MaxInt)+": a=1 ")
	text(t, "Write behind it", picture(f), was)
}

func TestP4_1LogsErrors(t *testing.T) {
	f := begun(t)
	lay(t, f, "s/log/00000004", nil)
	was := picture(f)
	refused(t, "a segment that is missing", f, api.ErrCorrupt)
	text(t, "a segment that is missing", picture(f), was)

	f = roomy()
	for i := range api.MaxFiles {
		lay(t, f, "x"+strconv.Itoa(i), nil)
	}
	refused(t, "too many files", f, api.ErrFull)
	want(t, "Remove", f.Remove("x7"), api.OK)
	text(t, "one file less", all(opened(t, f)), "0: ")

	f = roomy()
	f.Arm(1)
	refused(t, "the first write fails", f, api.ErrDown)
	f.Crash(nil)
	names(t, "the first write fails", f)

	f = begun(t)
	lay(t, f, "s/log/00000002", append(read(t, f, "s/log/00000002"), framed([]byte("x"), nil)[:12]...))
	f.Arm(1)
	refused(t, "the log's error ahead of a record's", f, api.ErrDown)
}

func TestP4_1Removes(t *testing.T) {
	f := begun(t)
	before := files(f)
	others := []string{"s", "s/base-", "s/base-0000001", "s/base-000000010", "s/base-0000000a", "s/base-00000001/x", "s/base--0000001",
		"s/log/0000001", "s/log/00000000", "s/log/x", "s/manifest.x", "s/next.x", "s/other", "s2/next", "s2/base-00000007", "next"}
	old := []string{"s/base-00000000", "s/base-00000002", "s/base-00000010", "s/base-99999999", "s/log/00000001", "s/next"}
	for _, name := range others {
		lay(t, f, name, []byte(name))
	}
	asked := f.Names("")
	for _, name := range old {
		lay(t, f, name, nil)
	}
	writes := f.Steps()
	for n := 1; n <= len(old); n++ {
		g := f.Copy()
		g.Arm(n)
		refused(t, "a removal fails", g, api.ErrDown)
		g.Crash(nil)
		text(t, "behind a removal that failed", all(opened(t, g)), "3: a=1 b=2 c=3 ")
		names(t, "behind a removal that failed", g, asked...)
	}
	text(t, "Open", all(opened(t, f)), "3: a=1 b=2 c=3 ")
	names(t, "Open", f, asked...)
	number(t, "writes", f.Steps()-writes, len(old))
	for _, name := range others {
		text(t, "another file", string(read(t, f, name)), name)
		want(t, "Remove", f.Remove(name), api.OK)
	}
	text(t, "what counts", files(f), before)
}

// TestP4_1OldSegments opens a store of which segments were left that count no more.
func TestP4_1OldSegments(t *testing.T) {
	f := begun(t)
	log := read(t, f, "s/log/00000002")
	for i := range 4 {
		lay(t, f, "s/log/0000000"+strconv.Itoa(5+i), framed(batch(1, put("q", "9")), batch(2, drop("a"))))
	}
	lay(t, f, "s/log/00000009", log)
	lay(t, f, "s/manifest", manifest(1, 9))
	want(t, "Remove", f.Remove("s/log/00000002"), api.OK)
	f.Arm(3)
	refused(t, "a removal fails", f, api.ErrDown)
	f.Crash(nil)
	// The lowest go first, so that those that are left go on one by one.
	names(t, "two removals", f, "s/base-00000001", "s/log/00000007", "s/log/00000008", "s/log/00000009", "s/manifest")
	text(t, "old segments", all(opened(t, f)), "3: a=1 b=2 c=3 ")
	names(t, "old segments", f, "s/base-00000001", "s/log/00000009", "s/manifest")
}

func TestP4_5OpenKeepsNothing(t *testing.T) {
	f := roomy()
	dir := []byte("s")
	s, e := store.Open(f, over(dir), store.Opts{Segment: 64})
	want(t, "Open", e, api.OK)
	dir[0] = 'x'
	write(t, s, put("a", "1"))
	kept(t, s)
	names(t, "P4.5", f, "s/base-00000001", "s/log/00000002", "s/manifest")
}
