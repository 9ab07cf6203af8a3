package store

import "rubric/api"

const (
	batchKind = 1 // of its frame
	deletion  = 0
	maxKind   = 9
	kindAt    = len(api.Key{}) // the key is ahead
	lengthAt  = kindAt + 1
	valueAt   = lengthAt + 2
	frameSize = 9 // what a frame has around its payload
)

// live: the live bytes of the entry that is put; none, if it is a deletion.
func (op Op) live() int {
	if op.Kind == deletion {
		return 0
	}
	return valueAt + len(op.Value) + frameSize
}

// allowed: whether the kind is one, and a deletion has no value.
func (op Op) allowed() bool {
	if op.Kind == deletion {
		return len(op.Value) == 0
	}
	return 1 <= op.Kind && op.Kind <= maxKind
}

// check: the error of changes that are too many, of one that isn't allowed, of too many bytes.
func check(ops ...Op) api.Errno {
	if len(ops) > api.MaxBatch {
		return api.ErrFull
	}
	size := 0
	for _, op := range ops {
		if !op.allowed() {
			return api.ErrRange
		}
		size += valueAt + len(op.Value)
	}
	if size > api.MaxPayload {
		return api.ErrLong
	}
	return api.OK
}

// payload: the changes' bytes, in order.
func payload(ops ...Op) []byte {
	var b []byte
	for _, op := range ops {
		n := len(op.Value)
		b = append(b, op.Key[:]...)
		b = append(b, byte(op.Kind), byte(n), byte(n>>8))
		b = append(b, op.Value...)
	}
	return b
}

// batch: the changes of a frame, and whether it is a batch's.
func batch(kind int, b []byte) ([]Op, bool) {
	var ops []Op
	for len(b) > 0 {
		n := changeSize(b)
		if n > len(b) {
			return nil, false
		}
		ops = append(ops, Op{Key: api.Key(b[:kindAt]), Kind: int(b[kindAt]), Value: b[valueAt:n]})
		b = b[n:]
	}
	if kind != batchKind || len(ops) == 0 || check(ops...) != api.OK {
		return nil, false
	}
	return ops, true
}

// changeSize: how many bytes the change has that b begins with; at least the head, if b hasn't even that.
func changeSize(b []byte) int {
	if len(b) < valueAt {
		return valueAt
	}
	return valueAt + int(b[lengthAt]) + int(b[lengthAt+1])<<8
}
