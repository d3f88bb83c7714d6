package block

import (
	"bytes"
	"encoding/binary"
	"math"
	"math/rand/v2"
	"slices"
	"testing"

	"clepsydra/api"
)

// What follows is a second block, written by the words of 11.1.

func plainOk(x api.Item) bool {
	if x.Series < 0 || x.Series > 255 || x.Version < 1 || x.Version > 1<<48 {
		return false
	}
	return x.Kind == 1 && x.Time == 0 && x.Value == 0 || x.Kind == 2 && x.Time <= 1<<40
}

func plainLess(a, b api.Item) bool {
	if a.Series != b.Series {
		return a.Series < b.Series
	}
	if a.Kind != b.Kind {
		return a.Kind < b.Kind
	}
	return a.Time < b.Time
}

func plainSame(a, b api.Item) bool {
	return !plainLess(a, b) && !plainLess(b, a)
}

func plainPut(b []byte, l []api.Item) ([]byte, api.Errno) {
	if len(l) > 100 {
		return nil, api.ErrLong
	}
	if len(l) == 0 {
		return nil, api.ErrArg
	}
	for i, x := range l {
		if !plainOk(x) || i > 0 && !plainLess(l[i-1], x) {
			return nil, api.ErrArg
		}
	}
	return join(b, block(l...)), api.OK
}

// plainTake takes any items that the bytes might be, and then asks whether Put
// would have made just these bytes of them.
func plainTake(b []byte, at int) ([]api.Item, int, api.Errno) {
	if at < 0 || at > len(b) {
		return nil, 0, api.ErrArg
	}
	l := guess(b[at:])
	made, e := plainPut(nil, l)
	if e != api.OK || !bytes.HasPrefix(b[at:], made) {
		return nil, 0, api.ErrCorrupt
	}
	return l, at + len(made), api.OK
}

func guess(b []byte) []api.Item {
	if len(b) < 9 {
		return nil
	}
	b = b[8:]
	count, size := binary.Uvarint(b)
	if size <= 0 || count > 100 {
		return nil
	}
	b = b[size:]
	var l []api.Item
	for range count {
		if len(b) < 2 {
			return nil
		}
		x := api.Item{Series: int(b[0]), Kind: int(b[1])}
		b = b[2:]
		for _, to := range []*uint64{&x.Time, &x.Version} {
			n, size := binary.Uvarint(b)
			if size <= 0 {
				return nil
			}
			*to, b = n, b[size:]
		}
		n, size := binary.Varint(b)
		if size <= 0 {
			return nil
		}
		x.Value, b = n, b[size:]
		l = append(l, x)
	}
	return l
}

func plainCut(l []api.Item, most int) [][]api.Item {
	if most < 1 {
		most = 1
	}
	if most > 100 {
		most = 100
	}
	var rows [][]api.Item
	for i, x := range l {
		if i%most == 0 {
			rows = append(rows, nil)
		}
		rows[len(rows)-1] = append(rows[len(rows)-1], x)
	}
	return rows
}

func plainFind(l []api.Item, x api.Item) (api.Item, bool) {
	for _, y := range l {
		if plainSame(x, y) {
			return y, true
		}
	}
	return api.Item{}, false
}

// checkPut, checkTake and so on fail where the two tell different things.

func checkPut(t *testing.T, b []byte, l []api.Item) {
	t.Helper()
	got, e := put(t, b, l)
	want, wantE := plainPut(b, l)
	if !bytes.Equal(got, want) || e != wantE {
		t.Fatalf("Put(%.40x, %v) is %x, %v, not %x, %v", b, l, got, e, want, wantE)
	}
}

func checkTake(t *testing.T, b []byte, at int) api.Errno {
	t.Helper()
	got, next, e := take(t, b, at)
	want, wantNext, wantE := plainTake(b, at)
	if !slices.Equal(got, want) || next != wantNext || e != wantE {
		t.Fatalf("Take(%x, %d) is %v, %d, %v, not %v, %d, %v", b, at, got, next, e, want, wantNext, wantE)
	}
	return e
}

func checkCut(t *testing.T, l []api.Item, most int) {
	t.Helper()
	got, want := cut(t, l, most), plainCut(l, most)
	if !slices.EqualFunc(got, want, slices.Equal[[]api.Item]) {
		t.Fatalf("Cut(%v, %d) is %v, not %v", l, most, got, want)
	}
}

func checkFind(t *testing.T, l []api.Item, x api.Item) {
	t.Helper()
	got, ok := find(t, l, x)
	want, wantOk := plainFind(l, x)
	if got != want || ok != wantOk {
		t.Fatalf("Find(%v, %v) is %v, %v, not %v, %v", l, x, got, ok, want, wantOk)
	}
}

// anyGood answers an item that may be, often at one of few places.
func anyGood(r *rand.Rand) api.Item {
	series := []int{0, 1, 2, 254, 255}[r.IntN(5)]
	version := []uint64{1, 2, 127, 128, 1<<48 - 1, 1 << 48}[r.IntN(6)]
	if r.IntN(8) == 0 {
		return tomb(series, version)
	}
	time := []uint64{0, 1, 2, 127, 128, 300, 1<<32 - 1, 1 << 32, 1<<40 - 1, 1 << 40}[r.IntN(10)]
	if r.IntN(2) == 0 {
		time = r.Uint64N(1 << 40)
	}
	value := []int64{math.MinInt64, -65, -64, -1, 0, 1, 63, 64, math.MaxInt64}[r.IntN(9)]
	return sample(series, time, version, value)
}

// anyRising answers items that rise, of which there may be none.
func anyRising(r *rand.Rand) []api.Item {
	var l []api.Item
	for range r.IntN(1 + []int{3, 12, 150, 400}[r.IntN(4)]) {
		l = append(l, anyGood(r))
	}
	slices.SortFunc(l, func(a, b api.Item) int {
		switch {
		case plainLess(a, b):
			return -1
		case plainLess(b, a):
			return 1
		}
		return 0
	})
	return slices.CompactFunc(l, plainSame)
}

// anyList answers items that rise more often than not.
func anyList(r *rand.Rand) []api.Item {
	l := anyRising(r)
	if len(l) == 0 {
		return l
	}
	switch i := r.IntN(len(l)); r.IntN(8) {
	case 0:
		l[i] = bad()[r.IntN(len(bad()))]
	case 1:
		l = slices.Insert(l, i, anyGood(r))
	case 2:
		k := r.IntN(len(l))
		l[i], l[k] = l[k], l[i]
	}
	return l
}

func TestListsAgainstThePlainBlock(t *testing.T) {
	seen := map[api.Errno]int{}
	for seed := range uint64(4000) {
		r := rand.New(rand.NewPCG(11, seed))
		l, ahead := anyList(r), text(r.IntN(4)*r.IntN(30))
		checkPut(t, ahead, l)
		_, e := plainPut(ahead, l)
		seen[e]++
		if e == api.OK {
			checkTake(t, join(ahead, block(l...)), len(ahead))
		}
		checkCut(t, l, []int{math.MinInt, -1, 0, 1, 2, 20, 99, 100, 101, math.MaxInt}[r.IntN(10)])
		rising := anyRising(r)
		for range 5 {
			checkFind(t, rising, anyGood(r))
		}
		checkFind(t, rising, bad()[r.IntN(len(bad()))])
	}
	if len(seen) != 3 || seen[api.OK] < 1000 || seen[api.ErrArg] < 500 || seen[api.ErrLong] < 200 {
		t.Error("what Put told:", seen)
	}
}

// Frames whose sums are right, of lists of any kind.
func TestFramesAgainstThePlainBlock(t *testing.T) {
	seen := map[api.Errno]int{}
	for seed := range uint64(6000) {
		r := rand.New(rand.NewPCG(12, seed))
		l := anyList(r)
		count := len(l) + max(0, r.IntN(12)-10) - max(0, r.IntN(12)-10)
		body := coded(max(count, 0), l...)
		switch r.IntN(6) {
		case 0:
			body[r.IntN(len(body))] = byte(r.Uint32())
		case 1:
			body = body[:r.IntN(len(body)+1)]
		case 2:
			body = append(body, text(r.IntN(3))...)
		}
		ahead := text(r.IntN(20))
		b := join(ahead, framed(2+r.IntN(10)/9, body), text(r.IntN(20)))
		seen[checkTake(t, b, len(ahead))]++
	}
	if seen[api.OK] < 1000 || seen[api.ErrCorrupt] < 1000 {
		t.Error("what Take told:", seen)
	}
}

// The shortest body that Put writes, with any byte of it another one, and any
// two of them out of those that stand at some bound.
func TestShortFramesAgainstThePlainBlock(t *testing.T) {
	short := coded(1, sample(3, 5, 1, 1))
	edges := []byte{0, 1, 2, 3, 0x7f, 0x80, 0xff}
	for i := range short {
		for n := range 256 {
			b := bytes.Clone(short)
			b[i] = byte(n)
			checkTake(t, framed(2, b), 0)
			for k := range i {
				for _, c := range edges {
					b[k] = c
					checkTake(t, framed(2, b), 0)
				}
				b[k] = short[k]
			}
		}
	}
}

// Any bytes, whose sums may be wrong, at any place.
func TestBytesAgainstThePlainBlock(t *testing.T) {
	for seed := range uint64(6000) {
		r := rand.New(rand.NewPCG(13, seed))
		var b []byte
		for range r.IntN(4) {
			b = append(b, block(anyList(r)...)...)
		}
		switch r.IntN(5) {
		case 0:
			b = b[:r.IntN(len(b)+1)]
		case 1:
			b = text(r.IntN(60))
		case 2:
			for range r.IntN(8*len(b)/100 + 2) {
				if len(b) > 0 {
					turn(b, r.IntN(8*len(b)))
				}
			}
		}
		at, e := 0, api.OK
		for e == api.OK {
			e = checkTake(t, b, at)
			if e == api.OK {
				_, at, _ = plainTake(b, at)
			}
		}
		checkTake(t, b, r.IntN(len(b)+8)-3)
	}
}

// 11.3

// items reads items of any numbers from bytes, small numbers more often.
func items(b []byte) []api.Item {
	var l []api.Item
	for len(b) >= 6 {
		x := api.Item{Series: int(int8(b[1])), Kind: int(b[2] % 4), Time: uint64(b[3]), Version: uint64(b[4]), Value: int64(int8(b[5]))}
		wide := b[0]
		b = b[6:]
		if wide >= 240 && len(b) >= 8 {
			n := binary.LittleEndian.Uint64(b)
			b = b[8:]
			switch wide % 5 {
			case 0:
				x.Series = int(n)
			case 1:
				x.Kind = int(n)
			case 2:
				x.Time = n
			case 3:
				x.Version = n
			case 4:
				x.Value = int64(n)
			}
		}
		l = append(l, x)
	}
	return l
}

func FuzzNoCallPanics(f *testing.F) {
	f.Add([]byte(nil), []byte(nil), 0)
	f.Add(block(row(3)...), []byte("\x00\x01\x02\x03\x04\x05"), 0)
	f.Add(join([]byte("x"), block(widest(100)...)), []byte("\x00\x01\x01\x00\x05\x00\x00\x01\x02\x07\x04\x00"), 1)
	f.Add(coded(1, sample(3, 5, 1, 1)), []byte("\xf0\x00\x00\x00\x00\x00\xff\xff\xff\xff\xff\xff\xff\xff"), math.MinInt)
	f.Add([]byte("\xff\xff\xff\xff\xff\xff\xff\xff\xff\x01"), []byte("\x00\x01\x02\x07\x06\x00"), math.MaxInt)
	r := rand.New(rand.NewPCG(11, 9))
	for range 200 {
		var b [90]byte
		for i := range b {
			b[i] = byte(r.IntN(4))
			if r.IntN(20) == 0 {
				b[i] = byte(r.IntN(256))
			}
		}
		f.Add(b[:30], b[30:], r.IntN(40)-2)
	}
	f.Fuzz(func(t *testing.T, b, in []byte, n int) {
		l := items(in)
		checkPut(t, b, l)
		checkTake(t, b, n)
		checkTake(t, framed(2, b), 0)
		checkCut(t, l, n)
		var rising []api.Item
		for _, x := range l {
			// What is asked of a list that does not rise is not told, but
			// must end.
			Find(l, x)
			if len(rising) == 0 || plainLess(rising[len(rising)-1], x) {
				rising = append(rising, x)
			}
		}
		for _, x := range l {
			checkFind(t, rising, x)
		}
		if made, e := Put(b, l); e == api.OK {
			if back, next, e := Take(made, len(b)); e != api.OK || next != len(made) || !slices.Equal(back, l) {
				t.Errorf("%v came back as %v, %d, %v", l, back, next, e)
			}
		}
	})
}
