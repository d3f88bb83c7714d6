package table

import (
	"bytes"
	"encoding/binary"
	"math"
	"math/rand/v2"
	"slices"
	"testing"

	"clepsydra/api"
)

// What follows is a second table, written by the words of 12.1.

func plainOk(x api.Item) bool {
	if x.Series < 0 || x.Series > 255 || x.Version < 1 || x.Version > 1<<48 {
		return false
	}
	return x.Kind == 1 && x.Time == 0 && x.Value == 0 || x.Kind == 2 && x.Time <= 1<<40
}

func plainLess(a, b api.Item) bool {
	if a.Series != b.Series {
		return a.Series < b.Series
	}
	if a.Kind != b.Kind {
		return a.Kind < b.Kind
	}
	return a.Time < b.Time
}

func plainSame(a, b api.Item) bool {
	return !plainLess(a, b) && !plainLess(b, a)
}

func plainMake(l []api.Item) ([]byte, api.Errno) {
	if len(l) > 2000 {
		return nil, api.ErrLong
	}
	for i, x := range l {
		if !plainOk(x) || i > 0 && !plainLess(l[i-1], x) {
			return nil, api.ErrArg
		}
	}
	return written(l...), api.OK
}

// plainRead takes any items that the bytes might be, and then asks whether Make
// would have made just these bytes of them.
func plainRead(b []byte) ([]api.Item, api.Errno) {
	l := guess(b)
	made, e := plainMake(l)
	if e != api.OK || !bytes.Equal(made, b) {
		return nil, api.ErrCorrupt
	}
	return l, api.OK
}

// guess answers what the frames of kind 2 at b's beginning would have, if their
// lengths could be believed.
func guess(b []byte) []api.Item {
	var l []api.Item
	for len(b) >= 12 && b[0] == 2 {
		n := int(b[1])<<16 | int(b[2])<<8 | int(b[3])
		if len(b) < 12+n {
			break
		}
		body := b[8 : 8+n]
		b = b[12+n:]
		_, size := binary.Uvarint(body)
		if size <= 0 {
			break
		}
		for body = body[size:]; len(body) >= 5; {
			x := api.Item{Series: int(body[0]), Kind: int(body[1])}
			body = body[2:]
			for _, to := range []*uint64{&x.Time, &x.Version} {
				n, size := binary.Uvarint(body)
				*to, body = n, body[max(size, 0):]
			}
			n, size := binary.Varint(body)
			x.Value, body = n, body[max(size, 0):]
			l = append(l, x)
		}
	}
	return l
}

func plainGet(l []api.Item, x api.Item) (api.Item, bool) {
	for _, y := range l {
		if plainSame(x, y) {
			return y, true
		}
	}
	return api.Item{}, false
}

func plainRange(l []api.Item, from, to api.Item) []api.Item {
	var few []api.Item
	for _, x := range l {
		if !plainLess(x, from) && !plainLess(to, x) {
			few = append(few, x)
		}
	}
	return few
}

// checkMake, checkRead and checkAsk fail where the two tell different things.

func checkMake(t *testing.T, l []api.Item) api.Errno {
	t.Helper()
	got, e := made(t, l)
	want, wantE := plainMake(l)
	if !bytes.Equal(got, want) || e != wantE {
		t.Fatalf("Make of %v is %x, %v, not %x, %v", l, got, e, want, wantE)
	}
	return e
}

func checkRead(t *testing.T, b []byte) api.Errno {
	t.Helper()
	x, e := read(t, b)
	want, wantE := plainRead(b)
	if e != wantE {
		t.Fatalf("Read of %x is %v, not %v", b, e, wantE)
	}
	if e == api.OK {
		holds(t, "read", x, want)
	}
	return e
}

func checkAsk(t *testing.T, x *Table, l []api.Item, y, z api.Item) {
	t.Helper()
	got, ok := get(t, x, y)
	want, wantOk := plainGet(l, y)
	if got != want || ok != wantOk {
		t.Fatalf("of %v Get of %v is %v, %v, not %v, %v", l, y, got, ok, want, wantOk)
	}
	if may := x.May(y); may != has(l, y) {
		t.Fatalf("of %v May of %v is %v", l, y, may)
	}
	if few, want := ranged(t, x, y, z), plainRange(l, y, z); !slices.Equal(few, want) {
		t.Fatalf("of %v Range from %v to %v is %v, not %v", l, y, z, few, want)
	}
}

// anyGood answers an item that may be, often at one of few places.
func anyGood(r *rand.Rand) api.Item {
	series := []int{0, 1, 2, 254, 255}[r.IntN(5)]
	version := []uint64{1, 2, 127, 128, 1<<48 - 1, 1 << 48}[r.IntN(6)]
	if r.IntN(8) == 0 {
		return tomb(series, version)
	}
	time := []uint64{0, 1, 2, 127, 128, 300, 1<<32 - 1, 1 << 32, 1<<40 - 1, 1 << 40}[r.IntN(10)]
	if r.IntN(2) == 0 {
		time = r.Uint64N(1 << 40)
	}
	value := []int64{math.MinInt64, -65, -64, -1, 0, 1, 63, 64, math.MaxInt64}[r.IntN(9)]
	return sample(series, time, version, value)
}

// anyRising answers items that rise, of which there may be none.
func anyRising(r *rand.Rand) []api.Item {
	var l []api.Item
	for range r.IntN(1 + []int{3, 22, 60, 400}[r.IntN(4)]) {
		l = append(l, anyGood(r))
	}
	slices.SortFunc(l, func(a, b api.Item) int {
		switch {
		case plainLess(a, b):
			return -1
		case plainLess(b, a):
			return 1
		}
		return 0
	})
	return slices.CompactFunc(l, plainSame)
}

// anyList answers items that rise more often than not.
func anyList(r *rand.Rand) []api.Item {
	l := anyRising(r)
	if len(l) == 0 {
		return l
	}
	switch i := r.IntN(len(l)); r.IntN(8) {
	case 0:
		l[i] = bad()[r.IntN(len(bad()))]
	case 1:
		l = slices.Insert(l, i, anyGood(r))
	case 2:
		k := r.IntN(len(l))
		l[i], l[k] = l[k], l[i]
	}
	return l
}

// anyPlace answers one of l, or one beside it, or any other.
func anyPlace(r *rand.Rand, l []api.Item) api.Item {
	if len(l) == 0 || r.IntN(6) == 0 {
		return anyGood(r)
	}
	if r.IntN(12) == 0 {
		return far()[r.IntN(len(far()))]
	}
	near := around(l[r.IntN(len(l))])
	return near[r.IntN(len(near))]
}

func TestListsAgainstThePlainTable(t *testing.T) {
	seen := map[api.Errno]int{}
	for seed := range uint64(2000) {
		r := rand.New(rand.NewPCG(12, seed))
		l := anyList(r)
		e := checkMake(t, l)
		seen[e]++
		if e != api.OK {
			continue
		}
		checkRead(t, written(l...))
		x := table(t, l...)
		for range 8 {
			checkAsk(t, x, l, anyPlace(r, l), anyPlace(r, l))
		}
	}
	if seen[api.OK] < 1000 || seen[api.ErrArg] < 200 {
		t.Error("what Make told:", seen)
	}
}

// Frames whose sums are right, in rows of any length, with a change or none.
func TestFramesAgainstThePlainTable(t *testing.T) {
	seen := map[api.Errno]int{}
	for seed := range uint64(3000) {
		r := rand.New(rand.NewPCG(13, seed))
		l := anyList(r)
		rows := twenties(l)
		if len(l) > 0 && r.IntN(4) == 0 {
			rows = slices.Collect(slices.Chunk(l, []int{1, 5, 19, 20, 21, 100}[r.IntN(6)]))
		}
		s := sheetOf(rows...)
		body := []*[]byte{&s.index, &s.filter, &s.end}[r.IntN(3)]
		switch r.IntN(8) {
		case 0:
			*body = bytes.Clone(*body)
			if len(*body) > 0 {
				(*body)[r.IntN(len(*body))] = byte(r.Uint32())
			}
		case 1:
			*body = (*body)[:r.IntN(len(*body)+1)]
		case 2:
			*body = join(*body, text(r.IntN(3)))
		}
		frames := s.frames()
		if r.IntN(10) == 0 {
			i, k := r.IntN(len(frames)), r.IntN(len(frames))
			frames[i], frames[k] = frames[k], frames[i]
		}
		seen[checkRead(t, join(frames...))]++
	}
	if seen[api.OK] < 500 || seen[api.ErrCorrupt] < 500 {
		t.Error("what Read told:", seen)
	}
}

// Any bytes, whose sums may be wrong.
func TestBytesAgainstThePlainTable(t *testing.T) {
	for seed := range uint64(3000) {
		r := rand.New(rand.NewPCG(14, seed))
		b := written(anyList(r)...)
		switch r.IntN(4) {
		case 0:
			b = b[:r.IntN(len(b)+1)]
		case 1:
			b = join(b, text(r.IntN(40)))
		case 2:
			for range 1 + r.IntN(6) {
				turn(b, r.IntN(8*len(b)))
			}
		}
		checkRead(t, b)
	}
}

// 12.3

// items reads items of any numbers from bytes, small numbers more often.
func items(b []byte) []api.Item {
	var l []api.Item
	for len(b) >= 6 {
		x := api.Item{Series: int(int8(b[1])), Kind: int(b[2] % 4), Time: uint64(b[3]), Version: uint64(b[4]), Value: int64(int8(b[5]))}
		wide := b[0]
		b = b[6:]
		if wide >= 240 && len(b) >= 8 {
			n := binary.LittleEndian.Uint64(b)
			b = b[8:]
			switch wide % 5 {
			case 0:
				x.Series = int(n)
			case 1:
				x.Kind = int(n)
			case 2:
				x.Time = n
			case 3:
				x.Version = n
			case 4:
				x.Value = int64(n)
			}
		}
		l = append(l, x)
	}
	return l
}

func FuzzNoCallPanics(f *testing.F) {
	f.Add([]byte(nil), []byte(nil))
	f.Add(written(), []byte("\x00\x01\x02\x03\x04\x05"))
	f.Add(written(row(3)...), []byte("\x00\x01\x01\x00\x05\x00\x00\x01\x02\x07\x04\x00"))
	f.Add(written(widest(45)...), []byte("\xf0\x00\x00\x00\x00\x00\xff\xff\xff\xff\xff\xff\xff\xff"))
	f.Add([]byte("\xff\xff\xff\xff\xff\xff\xff\xff\xff\x01"), []byte("\x00\x01\x02\x07\x06\x00"))
	r := rand.New(rand.NewPCG(12, 9))
	for range 200 {
		var b [330]byte
		for i := range b {
			b[i] = byte(r.IntN(4))
			if r.IntN(20) == 0 {
				b[i] = byte(r.IntN(256))
			}
		}
		f.Add(b[:30], b[30:])
	}
	f.Fuzz(func(t *testing.T, b, in []byte) {
		l := items(in)
		checkMake(t, l)
		checkRead(t, b)
		checkRead(t, join(framed(2, b), written()))
		checkRead(t, join(framed(3, b), framed(4, b), framed(5, b)))
		var rising []api.Item
		for _, x := range l {
			if plainOk(x) && (len(rising) == 0 || plainLess(rising[len(rising)-1], x)) {
				rising = append(rising, x)
			}
		}
		rising = rising[:min(len(rising), 2000)]
		checkMake(t, rising)
		x := table(t, rising...)
		for i, y := range l[:min(len(l), 50)] {
			checkAsk(t, x, rising, y, l[len(l)-1-i])
		}
	})
}
