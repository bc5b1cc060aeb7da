package store_test

import (
	"maps"
	"math/rand/v2"
	"slices"
	"strconv"
	"testing"

	"exchequer/api"
	"exchequer/fs"
	"exchequer/store"
)

// made is what a batch makes of pairs.
func made(pairs map[string]string, l []store.Change) map[string]string {
	pairs = maps.Clone(pairs)
	for _, c := range l {
		if c.Drop {
			delete(pairs, c.Key)
		} else {
			pairs[c.Key] = c.Value
		}
	}
	return pairs
}

// allOf is what a store of these pairs tells.
func allOf(seq int, pairs map[string]string) string {
	return strconv.Itoa(seq) + ": " + told(func(yield func(string, string) bool) {
		for _, k := range slices.Sorted(maps.Keys(pairs)) {
			if !yield(k, pairs[k]) {
				return
			}
		}
	})
}

// script is a fixed row of calls; an empty batch stands for a checkpoint.
func script() [][]store.Change {
	return [][]store.Change{
		{put("a", "1"), put("b", long(40))},
		{drop("a"), put("c", "3")},
		{},
		{put("a", "4"), drop("b"), drop("q")},
		{},
		{},
		{put("d", long(70))},
		{drop("a"), drop("c"), put("e", "5")},
	}
}

// played does a script as far as it goes: what must be there, what may be there instead, and whether it came to its end.
func played(t *testing.T, s *store.Store) (string, string, bool) {
	t.Helper()
	pairs, seq := map[string]string{}, 0
	for _, l := range script() {
		if len(l) == 0 {
			if e := s.Checkpoint(); e != api.OK {
				want(t, "Checkpoint", e, api.ErrDown)
				return allOf(seq, pairs), allOf(seq, pairs), false
			}
			continue
		}
		e := s.Write(l)
		if e != api.OK {
			want(t, "Write", e, api.ErrDown)
			return allOf(seq, pairs), allOf(seq+1, made(pairs, l)), false
		}
		pairs, seq = made(pairs, l), seq+1
		text(t, "at once", all(s), allOf(seq, pairs))
	}
	return allOf(seq, pairs), allOf(seq, pairs), true
}

// tidy tells that nothing is left that counts no more.
func tidy(t *testing.T, f *fs.FS) {
	t.Helper()
	if n := len(f.Names("s/base-")); n > 1 || n != len(f.Names("s/manifest")) || len(f.Names("s/next")) > 0 {
		t.Errorf("files that count no more: %v", f.Names(""))
	}
}

// TestP4_6EveryStep interrupts a row of calls at each of its writes, and the Opens behind it at each of theirs, whatever part of what is not synced stays.
func TestP4_6EveryStep(t *testing.T) {
	ended := false
	for arm := 1; !ended; arm++ {
		for keep := -1; keep <= 130 && !ended; keep += 1 + keep/30 {
			torn := func(string, int) int { return keep }
			f := roomy()
			s := opened(t, f)
			f.Arm(arm)
			var sure, maybe string
			sure, maybe, ended = played(t, s)
			f.Crash(torn)
			for again := 1; again <= 9; again++ {
				// On a copy: the same Open is interrupted at its first write, at its second, ..., and then once more.
				g := f.Copy()
				for n := again; n > 0; n-- {
					g.Arm(n)
					if x, e := store.Open(g, "s", store.Opts{Segment: 64}); e == api.OK {
						g.Arm(0)
						if got := all(x); got != sure && got != maybe {
							t.Fatalf("P4.6: armed %d, keep %d, again %d: %s", arm, keep, again, got)
						}
						tidy(t, g)
					} else {
						want(t, "Open", e, api.ErrDown)
					}
					g.Crash(torn)
				}
				x := opened(t, g)
				got := all(x)
				if got != sure && got != maybe {
					t.Fatalf("P4.6: armed %d, keep %d, again %d: %s", arm, keep, again, got)
				}
				tidy(t, g)
				write(t, x, put("z", "9"))
				kept(t, x)
				g.Crash(nil)
				text(t, "P4.6: it goes on", told(opened(t, g).All()), told(x.All()))
			}
		}
	}
}

// TestP4_6TornNames lets a crash keep of each file another part.
func TestP4_6TornNames(t *testing.T) {
	for arm := 1; arm < 60; arm++ {
		for seed := range uint64(20) {
			r := rand.New(rand.NewPCG(seed, uint64(arm)))
			f := roomy()
			s := opened(t, f)
			f.Arm(arm)
			sure, maybe, _ := played(t, s)
			f.Crash(func(_ string, unsynced int) int { return r.IntN(unsynced + 1) })
			if got := all(opened(t, f)); got != sure && got != maybe {
				t.Fatalf("P4.6: armed %d, seed %d: %s", arm, seed, got)
			}
			tidy(t, f)
		}
	}
}

// run does rows of calls on a store, and keeps in mind what must be there behind a crash.
type run struct {
	t       *testing.T
	r       *rand.Rand
	f       *fs.FS
	s       *store.Store
	segment int
	seq     int
	pairs   map[string]string
	last    []store.Change // the batch whose Write met ErrDown, if there is one
	refused int            // how many calls found no room
}

// batch is some changes.
func (x *run) batch() []store.Change {
	var l []store.Change
	for n := range x.r.IntN(5) + 1 {
		key := strconv.Itoa(x.r.IntN(6)*5 + n)
		if x.r.IntN(3) == 0 {
			l = append(l, drop(key))
		} else {
			l = append(l, put(key, strconv.Itoa(x.r.IntN(1000))+long(x.r.IntN(30))))
		}
	}
	return l
}

// step does one call; it is false if the file system is down.
func (x *run) step() bool {
	var e api.Errno
	if x.r.IntN(5) == 0 {
		e = x.s.Checkpoint()
		if e != api.ErrDown {
			tidy(x.t, x.f)
		}
	} else {
		l := x.batch()
		e = x.s.Write(l)
		switch e {
		case api.OK:
			x.seq, x.pairs = x.seq+1, made(x.pairs, l)
		case api.ErrDown:
			x.last = l
		}
	}
	if e == api.ErrFull {
		x.refused++
	} else if e != api.OK && e != api.ErrDown {
		x.t.Fatalf("P4.2, P4.4: %d", e)
	}
	text(x.t, "what is told", all(x.s), allOf(x.seq, x.pairs))
	return e != api.ErrDown
}

// crash keeps some bytes of each file.
func (x *run) crash() {
	x.f.Crash(func(_ string, unsynced int) int { return x.r.IntN(unsynced+20) - 10 })
}

// open opens the store anew until it is not interrupted, and holds it against what must be there.
func (x *run) open() {
	x.crash()
	var e api.Errno
	for {
		x.f.Arm(x.r.IntN(7))
		x.s, e = store.Open(x.f, "s", store.Opts{Segment: x.segment})
		if e == api.OK {
			break
		}
		want(x.t, "Open", e, api.ErrDown)
		x.crash()
	}
	x.f.Arm(0)
	got := all(x.s)
	if x.last != nil && got == allOf(x.seq+1, made(x.pairs, x.last)) {
		x.seq, x.pairs = x.seq+1, made(x.pairs, x.last)
	}
	if x.last = nil; got != allOf(x.seq, x.pairs) {
		x.t.Fatalf("P4.6: %s, not %s", got, allOf(x.seq, x.pairs))
	}
	tidy(x.t, x.f)
	steps := x.f.Steps()
	again, e := store.Open(x.f, "s", store.Opts{Segment: x.segment})
	want(x.t, "P4.7: Open behind Open", e, api.OK)
	if all(again) != got || x.f.Steps() != steps {
		x.t.Fatalf("P4.7: %s, %d writes", all(again), x.f.Steps()-steps)
	}
}

// TestP4_6Runs does rows of calls, whose chances are fixed ahead, with much room and with little, and interrupts each of them several times.
func TestP4_6Runs(t *testing.T) {
	refused := 0
	for seed := range uint64(300) {
		room := api.MaxRoom
		if seed%3 == 2 {
			room = 200 + 5*int(seed)
		}
		x := &run{t: t, r: rand.New(rand.NewPCG(seed, 6)), f: fs.New(room), segment: 16 + int(seed%100), pairs: map[string]string{}}
		x.open()
		for range 10 {
			x.f.Arm(x.r.IntN(70))
			for range 40 {
				if !x.step() {
					break
				}
			}
			x.open()
		}
		refused += x.refused
	}
	if refused == 0 {
		t.Error("there was always room")
	}
}
