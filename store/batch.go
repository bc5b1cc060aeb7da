package store

import "exchequer/api"

// A change's first byte.
const (
	isWrite = 1
	isDrop  = 2
)

// How many bytes a batch's numbers take.
const (
	seqWidth   = 8
	countWidth = 2
	kindWidth  = 1
	keyWidth   = 1
	valueWidth = 4
	batchHead  = seqWidth + countWidth
)

// EncodeBatch is a batch's bytes.
func EncodeBatch(seq int, l []Change) ([]byte, api.Errno) {
	if seq < 1 {
		return nil, api.ErrForm
	}
	if e := batchError(l); e != api.OK {
		return nil, e
	}
	if batchSize(l) > api.MaxRecord {
		return nil, api.ErrLong
	}
	return batchBytes(seq, l), api.OK
}

// DecodeBatch is the batch of bytes.
func DecodeBatch(b []byte) (seq int, l []Change, e api.Errno) {
	defer func() {
		if recover() != nil {
			seq, l, e = 0, nil, api.ErrForm
		}
	}()
	seq, l = readBatch(b)
	return seq, l, api.OK
}

// batchError tells why a batch may not be.
func batchError(l []Change) api.Errno {
	if len(l) > api.MaxBatch {
		return api.ErrMany
	}
	ahead := make(map[string]struct{}, len(l))
	for _, c := range l {
		if len(c.Key) < 1 || len(c.Key) > api.MaxKey {
			return api.ErrName
		}
		if !c.Drop && len(c.Value) > api.MaxValue {
			return api.ErrLong
		}
		if _, twice := ahead[c.Key]; twice {
			return api.ErrTwice
		}
		ahead[c.Key] = struct{}{}
	}
	return api.OK
}

// size is how many bytes a change takes in a batch.
func (c Change) size() int {
	n := kindWidth + keyWidth + len(c.Key)
	if !c.Drop {
		n += valueWidth + len(c.Value)
	}
	return n
}

// batchSize is how many bytes a batch takes.
func batchSize(l []Change) int {
	n := batchHead
	for _, c := range l {
		n += c.size()
	}
	return n
}

// batchBytes are the bytes of a batch that may be.
func batchBytes(seq int, l []Change) []byte {
	b := make([]byte, 0, batchSize(l))
	b = appendNumber(b, seq, seqWidth)
	b = appendNumber(b, len(l), countWidth)
	for _, c := range l {
		b = appendChange(b, c)
	}
	return b
}

func appendChange(b []byte, c Change) []byte {
	kind := isWrite
	if c.Drop {
		kind = isDrop
	}
	b = appendNumber(b, kind, kindWidth)
	b = appendText(b, c.Key, keyWidth)
	if !c.Drop {
		b = appendText(b, c.Value, valueWidth)
	}
	return b
}

// appendText writes a text's length in so many bytes, and the text.
func appendText(b []byte, s string, width int) []byte {
	return append(appendNumber(b, len(s), width), s...)
}

// appendNumber writes a number in so many bytes, the low one first.
func appendNumber(b []byte, n, width int) []byte {
	for i := range width {
		b = append(b, byte(uint64(n)>>(8*i)))
	}
	return b
}
