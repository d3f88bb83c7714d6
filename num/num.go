// Package num writes numbers as bytes, and reads them back.
package num

import (
	"sync/atomic"

	"clepsydra/api"
)

const (
	// group is how many bits of a number one byte carries.
	group = 7
	// more is the bit of a byte behind which the number goes on.
	more = 1 << group
	// longest is how many bytes 2^64 - 1 needs.
	longest = 10
	// eight is how many bytes Eight writes.
	eight = 8
)

// Put answers b and n in groups of seven bits, the lowest first.
func Put(b []byte, n uint64) []byte {
	return grow(room(b, longest), n)
}

// Take answers the number that b begins with, and how many bytes it has.
func Take(b []byte) (n uint64, size int, e api.Errno) {
	for i, c := range b {
		if i == longest-1 && c > 1 {
			// The tenth byte has room for the highest bit alone: one above 1
			// goes beyond 2^64 - 1, or on to an eleventh byte.
			return 0, 0, api.ErrForm
		}
		n |= uint64(c&^more) << (group * i)
		if c&more != 0 {
			continue
		}
		if c == 0 && i > 0 {
			// A last group of nothing could have been left out.
			return 0, 0, api.ErrForm
		}
		return n, i + 1, api.OK
	}
	return 0, 0, api.ErrTorn
}

// Eight answers b and n as eight bytes, the highest first.
func Eight(b []byte, n uint64) []byte {
	own := room(b, eight)
	for i := range eight {
		own = append(own, byte(n>>(8*(eight-1-i))))
	}
	return own
}

// Uneight answers the number of b's first eight bytes.
func Uneight(b []byte) (uint64, api.Errno) {
	if len(b) < eight {
		return 0, api.ErrTorn
	}
	n := uint64(0)
	for _, c := range b[:eight] {
		n = n<<8 | uint64(c)
	}
	return n, api.OK
}

// Sign folds the numbers below 0 in between the others, so that those near 0
// are small whatever their sign.
func Sign(n int64) uint64 {
	return uint64(n)<<1 ^ uint64(n>>63)
}

// Unsign answers what Sign was given.
func Unsign(n uint64) int64 {
	return int64(n>>1) ^ -int64(n&1)
}

// List answers b, how many numbers l has, and each of them.
func List(b []byte, l []uint64) []byte {
	own := grow(room(b, longest+len(l)), uint64(len(l)))
	for _, n := range l {
		own = grow(own, n)
	}
	return own
}

// Unlist answers the list that b begins with, and how many bytes it has.
func Unlist(b []byte, most int) ([]uint64, int, api.Errno) {
	r := reader{b: b}
	count, e := r.take()
	if e != api.OK {
		return nil, 0, e
	}
	if count > uint64(max(most, 0)) {
		return nil, 0, api.ErrLong
	}
	// No room is made ahead: count is only what the bytes claim.
	var l []uint64
	for range count {
		n, e := r.take()
		if e != api.OK {
			return nil, 0, e
		}
		l = append(l, n)
	}
	return l, r.place(), api.OK
}

// reader takes number by number from b. Its place is counted by an atomic
// number, since the one who takes and the one who tells the size look at it.
type reader struct {
	b  []byte
	at atomic.Int64
}

func (r *reader) take() (uint64, api.Errno) {
	n, size, e := Take(r.b[r.place():])
	r.at.Add(int64(size))
	return n, e
}

func (r *reader) place() int {
	return int(r.at.Load())
}

// room answers a copy of b with spare room for size bytes more, so that what
// is answered shares nothing with what was handed in.
func room(b []byte, size int) []byte {
	own := make([]byte, 0, len(b)+size)
	return append(own, b...)
}

// grow writes n behind own's end, and may use own's spare room.
func grow(own []byte, n uint64) []byte {
	for n >= more {
		own = append(own, byte(n)|more)
		n >>= group
	}
	return append(own, byte(n))
}
