package log

import (
	"clepsydra/api"
	"clepsydra/frame"
	"clepsydra/item"
)

// batchKind is the kind of a batch's frame.
const batchKind = 1

// Batch answers the bytes of a batch.
func Batch(l []api.Item) ([]byte, api.Errno) {
	if len(l) == 0 {
		return nil, api.ErrArg
	}
	body, e := item.Bytes(nil, l)
	if e != api.OK {
		return nil, e
	}
	// A batch may have as many bytes as a frame's body, so that frame.Put is the
	// one that refuses more.
	return frame.Put(nil, batchKind, body)
}

// Replay answers the batches that b begins with, and where they end. A frame
// that was cut is no fault: so a loss of power leaves the last one.
func Replay(b []byte) (l [][]api.Item, end int, e api.Errno) {
	kinds, bodies, end, e := frame.Split(b)
	if e != api.OK && e != api.ErrTorn {
		return nil, 0, api.ErrCorrupt
	}
	for i, body := range bodies {
		batch, ok := unbatch(kinds[i], body)
		if !ok {
			return nil, 0, api.ErrCorrupt
		}
		l = append(l, batch)
	}
	return l, end, api.OK
}

// unbatch answers the items of a batch's frame, and false of any other frame.
func unbatch(kind int, body []byte) ([]api.Item, bool) {
	if kind != batchKind {
		return nil, false
	}
	l, e := item.Read(body)
	if e != api.OK || len(l) == 0 {
		return nil, false
	}
	return l, true
}
