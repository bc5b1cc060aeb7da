package wal_test

import (
	"bytes"
	"math/rand/v2"
	"slices"
	"strconv"
	"strings"
	"testing"

	"exchequer/api"
	"exchequer/fs"
	"exchequer/wal"
)

// entry is a record whose Append answered OK, and the segment that it stands in.
type entry struct {
	segment int
	text    string
}

// run does rows of calls on a log, and keeps in mind what must be there behind a crash.
type run struct {
	t     *testing.T
	r     *rand.Rand
	f     *fs.FS
	l     *wal.Log
	size  int
	count int
	kept  []entry
	last  entry // the record whose Append met ErrDown, if there is one
	maybe bool  // last may be there
}

// append appends a record of its own; it is false if the file system is down.
func (x *run) append() bool {
	x.count++
	text := strconv.Itoa(x.count) + strings.Repeat(".", x.r.IntN(24))
	e := x.l.Append([]byte(text))
	switch e {
	case api.OK:
		x.kept = append(x.kept, entry{x.l.Segment(), text})
	case api.ErrDown:
		x.last, x.maybe = entry{x.l.Segment(), text}, true
	case api.ErrFull:
	default:
		x.t.Fatalf("Append: %d", e)
	}
	return e != api.ErrDown
}

// step does one call; it is false if the file system is down.
func (x *run) step() bool {
	first, last := x.l.First(), x.l.Segment()
	switch x.r.IntN(8) {
	case 0:
		e := x.l.Rotate()
		if e == api.OK && x.l.Segment() != last+1 || e != api.OK && x.l.Segment() != last {
			x.t.Fatalf("P2.3: from %d to %d: %d", last, x.l.Segment(), e)
		}
		return e != api.ErrDown
	case 1:
		below := first + x.r.IntN(last-first+1)
		e := x.l.Drop(below)
		if e == api.OK && x.l.First() != below || x.l.First() < first || x.l.First() > below {
			x.t.Fatalf("P2.4: from %d below %d to %d: %d", first, below, x.l.First(), e)
		}
		x.drop()
		return e != api.ErrDown
	}
	return x.append()
}

// drop forgets the records of the segments that are gone.
func (x *run) drop() {
	x.kept = slices.DeleteFunc(x.kept, func(one entry) bool { return one.segment < x.l.First() })
}

// texts are the records that must be there.
func (x *run) texts() []string {
	var l []string
	for _, one := range x.kept {
		l = append(l, one.text)
	}
	return l
}

// open opens the log anew until it is not interrupted, and holds its records against what must be there.
func (x *run) open() {
	x.crash()
	x.f.Arm(x.r.IntN(4))
	l, records, e := wal.Open(x.f, "w", x.size)
	for e == api.ErrDown {
		x.crash()
		l, records, e = wal.Open(x.f, "w", x.size)
	}
	if e != api.OK {
		x.t.Fatalf("P2.6: Open: %d", e)
	}
	x.f.Arm(0)
	got, asked := texts(records), x.texts()
	if x.maybe && len(got) == len(asked)+1 {
		x.kept = append(x.kept, x.last)
		asked = x.texts()
	}
	if !slices.Equal(got, asked) {
		x.t.Fatalf("P2.6: %q, not %q (or behind it %q, %v)", got, asked, x.last.text, x.maybe)
	}
	x.l, x.maybe = l, false
	x.again(got)
}

// again tells that Open behind Open tells the same, and cuts and writes nothing.
func (x *run) again(records []string) {
	steps := x.f.Steps()
	l, got, e := wal.Open(x.f, "w", x.size)
	if e != api.OK || !slices.Equal(texts(got), records) || l.Cut() != 0 || x.f.Steps() != steps {
		x.t.Fatalf("P2.7: %d, %q, not %q", e, texts(got), records)
	}
	if l.First() != x.l.First() || l.Segment() != x.l.Segment() {
		x.t.Fatalf("P2.7: %d to %d, not %d to %d", l.First(), l.Segment(), x.l.First(), x.l.Segment())
	}
}

// crash keeps at most some bytes of each file.
func (x *run) crash() {
	keep := x.r.IntN(40)
	x.f.Crash(func(string, int) int { return keep })
}

// TestP2_6Kept does rows of calls, whose chances are fixed ahead, and interrupts each of them several times.
func TestP2_6Kept(t *testing.T) {
	for seed := range uint64(400) {
		room := api.MaxRoom
		if seed%4 == 3 {
			room = int(seed)
		}
		x := &run{t: t, r: rand.New(rand.NewPCG(seed, 3)), f: fs.New(room), size: 16 + int(seed%60)}
		x.open()
		for range 12 {
			x.f.Arm(x.r.IntN(30))
			for range 40 {
				if !x.step() {
					break
				}
			}
			x.open()
		}
	}
}

// TestP2_6EveryStep interrupts a fixed row of calls at each of its writes, whatever part of what is not synced stays.
func TestP2_6EveryStep(t *testing.T) {
	for arm := 1; arm <= 40; arm++ {
		for keep := -1; keep <= 26; keep++ {
			f := roomy()
			l := opened(t, f, 30)
			f.Arm(arm)
			var kept []string
			down := ""
			for i := range 12 {
				text := strings.Repeat("ab", i) + strconv.Itoa(i)
				if e := l.Append([]byte(text)); e == api.OK {
					kept = append(kept, text)
				} else if e == api.ErrDown {
					down = text
				} else {
					want(t, "Append of a stuck one", e, api.ErrState)
				}
			}
			f.Crash(func(string, int) int { return keep })
			_, records, e := wal.Open(f, "w", 30)
			want(t, "Open", e, api.OK)
			got := texts(records)
			if down != "" && len(got) == len(kept)+1 {
				kept = append(kept, down)
			}
			if !slices.Equal(got, kept) {
				t.Fatalf("arm %d, keep %d: %q, not %q", arm, keep, got, kept)
			}
		}
	}
}

// TestP2_6Full fills a file system: what was refused is not there, what was taken is.
func TestP2_6Full(t *testing.T) {
	for room := range 120 {
		f := fs.New(room)
		l := opened(t, f, 20)
		var kept []string
		for i := range 20 {
			text := strings.Repeat("x", i*7%11) + strconv.Itoa(i)
			asked := api.OK
			if f.Used()+8+len(text) > room {
				asked = api.ErrFull
			} else {
				kept = append(kept, text)
			}
			want(t, "Append", l.Append([]byte(text)), asked)
			opened(t, f, 20, kept...)
		}
		f.Crash(nil)
		opened(t, f, 20, kept...)
	}
}

func TestP2_7Fronts(t *testing.T) {
	records := []string{"one", "", "three", strings.Repeat("4", 300), "\x00\x00\x00\x00\x00\x00\x00\x00", "", string(framed("within"))}
	b := framed(records...)
	for n := range len(b) + 1 {
		got, end, whole := wal.Scan(b[:n])
		if len(got) > len(records) || !slices.Equal(texts(got), records[:len(got)]) {
			t.Fatalf("a front of %d bytes: %q", n, got)
		}
		if end != len(framed(texts(got)...)) || whole != (end == n) {
			t.Fatalf("a front of %d bytes: %d, %v", n, end, whole)
		}
		f := roomy()
		put(t, f, "w/00000001", b[:n])
		number(t, "Cut", opened(t, f, 16, texts(got)...).Cut(), n-end)
		steps := f.Steps()
		number(t, "Cut again", opened(t, f, 16, texts(got)...).Cut(), 0)
		number(t, "Steps again", f.Steps(), steps)
	}
}

// TestP2_7AnyBytes opens segments of bytes that nobody framed.
func TestP2_7AnyBytes(t *testing.T) {
	r := rand.New(rand.NewPCG(5, 6))
	for range 3000 {
		var b []byte
		for range r.IntN(6) {
			part := make([]byte, r.IntN(12))
			for i := range part {
				part[i] = byte(r.IntN(3) * r.IntN(256))
			}
			if r.IntN(3) > 0 {
				part = wal.Frame(part)
			}
			b = append(b, part...)
		}
		records, end, whole := wal.Scan(b)
		if end > len(b) || whole != (end == len(b)) || !bytes.Equal(framed(texts(records)...), b[:end]) {
			t.Fatalf("Scan of %x: %x, %d, %v", b, records, end, whole)
		}
		f := roomy()
		put(t, f, "w/00000001", b)
		number(t, "Cut", opened(t, f, 16, texts(records)...).Cut(), len(b)-end)
		number(t, "Cut again", opened(t, f, 16, texts(records)...).Cut(), 0)
	}
}
