package wal

import (
	"iter"
	"strconv"
	"strings"

	"exchequer/api"
)

const (
	header     = 8        // bytes of a frame ahead of its record: the record's length and its sum, four each
	digits     = 8        // digits of a segment's number in its file's name
	maxSegment = 99999999 // the number of the last segment that may be
)

// Frame is a record's frame.
func Frame(p []byte) []byte {
	b := make([]byte, header+len(p))
	putWord(b, uint32(len(p)))
	putWord(b[4:], Sum(p))
	copy(b[header:], p)
	return b
}

// Scan tells the records of the frames at b's beginning, the place behind the last of them, and whether that is b's end.
func Scan(b []byte) ([][]byte, int, bool) {
	var records [][]byte
	end := 0
walk:
	for sum, p := range frames(b) {
		// What stands behind a spoilt frame is no record: its place is told by a length that nothing vouches for.
		if len(p) > api.MaxRecord || Sum(p) != sum {
			break walk
		}
		records = append(records, copied(p))
		end += header + len(p)
	}
	return records, end, end == len(b)
}

// frames goes over what stands in b in the form of frames, sound or spoilt: the sum that each says, and its record.
func frames(b []byte) iter.Seq2[uint32, []byte] {
	return func(yield func(uint32, []byte) bool) {
		rest := b
		for len(rest) >= header {
			length := uint64(word(rest))
			// Held against what is there ahead of becoming an int, which may be of 32 bits.
			if length > uint64(len(rest)-header) {
				return
			}
			end := header + int(length)
			if !yield(word(rest[4:]), rest[header:end]) {
				return
			}
			rest = rest[end:]
		}
	}
}

// sumOfHalf has the sums' remainders of the sixteen halves of a byte: a table of whole bytes would be too long to stand here.
var sumOfHalf = [16]uint32{
	0x00000000, 0x1db71064, 0x3b6e20c8, 0x26d930ac,
	0x76dc4190, 0x6b6b51f4, 0x4db26158, 0x5005713c,
	0xedb88320, 0xf00f9344, 0xd6d6a3e8, 0xcb61b38c,
	0x9b64c2b0, 0x86d3d2d4, 0xa00ae278, 0xbdbdf21c,
}

// Sum is the sum of bytes.
func Sum(b []byte) uint32 {
	sum := ^uint32(0)
	for _, c := range b {
		sum ^= uint32(c)
		sum = sumOfHalf[sum&15] ^ sum>>4
		sum = sumOfHalf[sum&15] ^ sum>>4
	}
	return ^sum
}

// SegmentName is the name of a segment's file; empty, which no file is named, if no segment has that number.
func SegmentName(dir string, n int) string {
	if n < 1 || n > maxSegment {
		return ""
	}
	number := strconv.Itoa(n)
	return dir + "/" + strings.Repeat("0", digits-len(number)) + number
}

// segmentNumber is the number that a segment's name says behind its dir; 0 if it is no segment's.
func segmentNumber(behind string) int {
	if len(behind) != digits {
		return 0
	}
	n := 0
	for i := range digits {
		c := behind[i]
		if c < '0' || c > '9' {
			return 0
		}
		n = n*10 + int(c-'0')
	}
	return n
}

// word reads four bytes, the low one first.
func word(b []byte) uint32 {
	return uint32(b[0]) | uint32(b[1])<<8 | uint32(b[2])<<16 | uint32(b[3])<<24
}

// putWord writes four bytes, the low one first.
func putWord(b []byte, w uint32) {
	for i := range 4 {
		b[i] = byte(w >> (8 * i))
	}
}

// copied is the same bytes in memory of their own.
func copied(b []byte) []byte {
	c := make([]byte, len(b))
	copy(c, b)
	return c
}
