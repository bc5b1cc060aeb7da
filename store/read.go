package store

import (
	"bytes"
	"math"

	"exchequer/api"
	"exchequer/table"
	"exchequer/wal"
)

// spoilt is what the reading of bytes panics with where they are none of the form; DecodeBatch and Open take it back.
type spoilt struct{}

// must ends the reading where something does not hold.
func must(holds bool) {
	if !holds {
		panic(spoilt{})
	}
}

// reader reads bytes from their front on.
type reader struct{ rest []byte }

// take is the next bytes.
func (r *reader) take(n int) []byte {
	must(n <= len(r.rest))
	b := r.rest[:n]
	r.rest = r.rest[n:]
	return b
}

// number is a number of so many bytes, the low one first.
func (r *reader) number(width int) int {
	n := uint64(0)
	for i, c := range r.take(width) {
		n |= uint64(c) << (8 * i)
	}
	must(n <= math.MaxInt)
	return int(n)
}

// text is a text behind its length, which takes so many bytes.
func (r *reader) text(width int) string { return string(r.take(r.number(width))) }

// end tells that nothing is left.
func (r *reader) end() { must(len(r.rest) == 0) }

// change is a change of a batch.
func (r *reader) change() Change {
	kind := r.number(kindWidth)
	must(kind == isWrite || kind == isDrop)
	c := Change{Key: r.text(keyWidth), Drop: kind == isDrop}
	if !c.Drop {
		c.Value = r.text(valueWidth)
	}
	return c
}

// readBatch is the batch of bytes, and its seq.
func readBatch(b []byte) (int, []Change) {
	must(len(b) <= api.MaxRecord)
	r := reader{b}
	seq := r.number(seqWidth)
	must(seq >= 1)
	var l []Change
	for range r.number(countWidth) {
		l = append(l, r.change())
	}
	r.end()
	must(batchError(l) == api.OK)
	return seq, l
}

// readFrames are the records of frames, with nothing behind them.
func readFrames(b []byte) [][]byte {
	records, _, whole := wal.Scan(b)
	must(whole)
	return records
}

// readManifest is the manifest of bytes.
func readManifest(b []byte) manifest {
	frames := readFrames(b)
	must(len(frames) == 1)
	r := reader{frames[0]}
	m := manifest{}
	m.checkpoint = r.number(numberWidth)
	m.segment = r.number(numberWidth)
	r.end()
	must(m.checkpoint <= maxNumber && m.segment >= 1)
	return m
}

// readCheckpoint is the seq and the pairs of a checkpoint's bytes.
func readCheckpoint(b []byte) (int, *table.Table[string, string]) {
	frames := readFrames(b)
	must(len(frames) >= 2)
	first := reader{frames[0]}
	seq := first.number(seqWidth)
	pairs := table.New[string, string]()
	for _, p := range frames[1 : len(frames)-1] {
		_, l := readBatch(p)
		for _, c := range l {
			pairs.Put(c.Key, c.Value)
		}
	}
	// Pairs have one checkpoint alone: whatever else is wrong, their order, how they are parted, a drop, shows here.
	must(bytes.Equal(b, checkpointBytes(seq, pairs.All())))
	return seq, pairs
}
