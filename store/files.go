package store

import (
	"iter"
	"strconv"
	"strings"

	"exchequer/api"
	"exchequer/wal"
)

const (
	numberWidth = 8        // bytes of each number of a manifest
	digits      = 8        // digits of a checkpoint's number in its file's name
	maxNumber   = 99999999 // the greatest number of a checkpoint
)

// The files' names behind the directory's.
const (
	logPart      = "/log"
	basePart     = "/base-"
	manifestPart = "/manifest"
	nextPart     = "/next"
)

// manifest says where what is there begins.
type manifest struct {
	checkpoint int // the checkpoint's number; 0: there is none
	segment    int // the first log segment that counts
}

// manifestBytes are a manifest's bytes.
func manifestBytes(m manifest) []byte {
	b := appendNumber(nil, m.checkpoint, numberWidth)
	return wal.Frame(appendNumber(b, m.segment, numberWidth))
}

// checkpointBytes are a checkpoint's bytes.
func checkpointBytes(seq int, pairs iter.Seq2[string, string]) []byte {
	b := wal.Frame(appendNumber(nil, seq, seqWidth))
	for l := range parted(pairs) {
		b = append(b, wal.Frame(batchBytes(seq, l))...)
	}
	return append(b, wal.Frame(nil)...)
}

// parted goes over batches that write all pairs, as many in each as may be. A batch is there until the next one.
func parted(pairs iter.Seq2[string, string]) iter.Seq[[]Change] {
	return func(yield func([]Change) bool) {
		var l []Change
		size := batchHead
		for k, v := range pairs {
			c := Change{Key: k, Value: v}
			if len(l) == api.MaxBatch || size+c.size() > api.MaxRecord {
				if !yield(l) {
					return
				}
				l, size = l[:0], batchHead
			}
			l = append(l, c)
			size += c.size()
		}
		if len(l) > 0 {
			yield(l)
		}
	}
}

// baseName is the name of a checkpoint's file.
func baseName(dir string, n int) string {
	number := strconv.Itoa(n)
	return dir + basePart + strings.Repeat("0", digits-len(number)) + number
}

// baseNumber is the number that a name says behind its front; false, if it is no checkpoint's.
func baseNumber(behind string) (int, bool) {
	if len(behind) != digits {
		return 0, false
	}
	n := 0
	for i := range digits {
		c := behind[i]
		if c < '0' || c > '9' {
			return 0, false
		}
		n = n*10 + int(c-'0')
	}
	return n, true
}
