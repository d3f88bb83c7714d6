package block

import (
	"bytes"
	"encoding/binary"
	"hash/crc32"
	"math"
	"math/rand/v2"
	"slices"
	"testing"

	"clepsydra/api"
)

func sample(series int, time, version uint64, value int64) api.Item {
	return api.Item{Series: series, Kind: api.ISample, Time: time, Version: version, Value: value}
}

func tomb(series int, version uint64) api.Item {
	return api.Item{Series: series, Kind: api.ITomb, Version: version}
}

func list(l ...api.Item) []api.Item { return l }

// row answers n items that rise, the same at each run, deletes among them. Their
// Versions and Values go up and down, which must not matter.
func row(n int) []api.Item {
	l := make([]api.Item, n)
	for i := range l {
		l[i] = sample(i/10, uint64(i%10*i), uint64(1+(n-i)%7), int64(5-i%11))
		if i%10 == 0 {
			l[i] = tomb(i/10, uint64(1+i%3))
		}
	}
	return l
}

// widest answers n items none of which could have more bytes.
func widest(n int) []api.Item {
	l := make([]api.Item, n)
	for i := range l {
		l[i] = sample(255, uint64(1<<40-n+1+i), 1<<48, math.MinInt64)
	}
	return l
}

// bad answers items that may not be, each by one of 5.1's bounds. All of them
// stand behind low and ahead of high, so that a list rises with any of them
// in between.
func bad() []api.Item {
	return list(
		api.Item{Series: 3, Version: 5},
		api.Item{Series: 3, Kind: -1, Version: 5},
		api.Item{Series: 3, Kind: 3, Version: 5},
		api.Item{Series: 3, Kind: 257, Version: 5},
		api.Item{Series: 3, Kind: 258, Time: 7, Version: 5},
		api.Item{Series: 3, Kind: math.MaxInt, Version: 5},
		sample(3, 1<<40+1, 5, 1), sample(3, math.MaxUint64, 5, 1),
		sample(3, 1, 0, 1), sample(3, 1, 1<<48+1, 1), sample(3, 1, math.MaxUint64, 1),
		tomb(3, 0), tomb(3, 1<<48+1), tomb(3, math.MaxUint64),
		api.Item{Series: 3, Kind: api.ITomb, Time: 1, Version: 5},
		api.Item{Series: 3, Kind: api.ITomb, Time: 1 << 40, Version: 5},
		api.Item{Series: 3, Kind: api.ITomb, Version: 5, Value: 1},
		api.Item{Series: 3, Kind: api.ITomb, Version: 5, Value: -1},
	)
}

func low() api.Item  { return sample(2, 9, 4, 1) }
func high() api.Item { return tomb(4, 4) }

// Series that may not be stand ahead of all, or behind all.
func badSeries() (below, above []api.Item) {
	for _, s := range []int{math.MinInt, -256, -1} {
		below = append(below, sample(s, 1, 5, 1), tomb(s, 5))
	}
	for _, s := range []int{256, 257, 1 << 32, math.MaxInt} {
		above = append(above, sample(s, 1, 5, 1), tomb(s, 5))
	}
	return below, above
}

func belowZero() []int {
	return []int{math.MinInt, math.MinInt + 1, -1 << 32, -2, -1}
}

// seal answers b with its sum behind it, by another hand than package sum's.
func seal(b []byte) []byte {
	s := crc32.Checksum(b, crc32.MakeTable(crc32.Castagnoli))
	return binary.LittleEndian.AppendUint32(bytes.Clone(b), s)
}

// framed answers the frame of that kind, also one that may not be.
func framed(kind int, body []byte) []byte {
	head := append([]byte{byte(kind)}, binary.BigEndian.AppendUint32(nil, uint32(len(body)))[1:]...)
	return append(seal(head), seal(body)...)
}

// coded writes l as 5.2 says it, behind a count that may be a wrong one, and
// also items that may not be.
func coded(count int, l ...api.Item) []byte {
	b := binary.AppendUvarint(nil, uint64(count))
	for _, x := range l {
		b = append(b, byte(x.Series), byte(x.Kind))
		b = binary.AppendUvarint(b, x.Time)
		b = binary.AppendUvarint(b, x.Version)
		b = binary.AppendVarint(b, x.Value)
	}
	return b
}

// block answers the frame that 11.1 asks for, also of a list that may not be.
func block(l ...api.Item) []byte {
	return framed(2, coded(len(l), l...))
}

func join(parts ...[]byte) []byte {
	return bytes.Join(parts, nil)
}

func turn(b []byte, bit int) {
	b[bit/8] ^= 1 << (bit % 8)
}

// text answers n bytes, the same at each run.
func text(n int) []byte {
	r := rand.New(rand.NewPCG(uint64(n), 11))
	b := make([]byte, n)
	for i := range b {
		b[i] = byte(r.Uint32())
	}
	return b
}

// spare answers l with room behind it, and a look at whether that room or l was
// changed.
func spare[T comparable](l []T, behind ...T) (own []T, same func() bool) {
	all := append(slices.Clone(l), behind...)
	was := slices.Clone(all)
	return all[:len(l)], func() bool { return slices.Equal(all, was) }
}

func spareBytes(b []byte) (own []byte, same func() bool) {
	return spare(b, bytes.Repeat([]byte("behind"), 500)...)
}

func spareItems(l []api.Item) (own []api.Item, same func() bool) {
	return spare(l, append(row(120), sample(9, 9, 9, 9), api.Item{})...)
}

// spoil changes all of l, its spare room too.
func spoil[T any](l []T, by T) {
	for i := range l[:cap(l)] {
		l[:cap(l)][i] = by
	}
}

// put asks Put, and fails where it changes what it is given, lends it, or tells
// more than an error.
func put(t *testing.T, b []byte, l []api.Item) ([]byte, api.Errno) {
	t.Helper()
	inB, sameB := spareBytes(b)
	inL, sameL := spareItems(l)
	got, e := Put(inB, inL)
	again, _ := Put(inB, inL)
	told := bytes.Clone(got)
	spoil(got, 0x55)
	if !sameB() || !sameL() {
		t.Fatalf("Put(%.40x, %.5v) changed or lent what it was given", b, l)
	}
	if !bytes.Equal(told, again) {
		t.Fatalf("Put(%.40x, %.5v) is %.40x, and then %.40x", b, l, told, again)
	}
	if e != api.OK && got != nil {
		t.Fatalf("Put(%.40x, %.5v) is %.40x beside %v", b, l, told, e)
	}
	return told, e
}

// take asks Take, likewise.
func take(t *testing.T, b []byte, at int) ([]api.Item, int, api.Errno) {
	t.Helper()
	in, same := spareBytes(b)
	got, next, e := Take(in, at)
	again, _, _ := Take(in, at)
	told := slices.Clone(got)
	spoil(got, api.Item{Series: -7})
	if !same() {
		t.Fatalf("Take(%.40x, %d) changed or lent what it was given", b, at)
	}
	if !slices.Equal(told, again) {
		t.Fatalf("Take(%.40x, %d) is %v, and then %v", b, at, told, again)
	}
	if e != api.OK && (got != nil || next != 0) {
		t.Fatalf("Take(%.40x, %d) is %v, %d beside %v", b, at, told, next, e)
	}
	return told, next, e
}

// cut asks Cut, likewise; no two of its rows may share memory either.
func cut(t *testing.T, l []api.Item, most int) [][]api.Item {
	t.Helper()
	in, same := spareItems(l)
	got := Cut(in, most)
	var told [][]api.Item
	for i := range got {
		told = append(told, slices.Clone(got[i]))
		spoil(got[i], api.Item{Series: -7})
	}
	spoil(got, nil)
	if !same() {
		t.Fatalf("Cut of %d by %d changed or lent what it was given", len(l), most)
	}
	return told
}

// find asks Find, likewise.
func find(t *testing.T, l []api.Item, x api.Item) (api.Item, bool) {
	t.Helper()
	in, same := spareItems(l)
	got, ok := Find(in, x)
	if !same() {
		t.Fatalf("Find of %v changed %.5v", x, l)
	}
	if !ok && got != (api.Item{}) {
		t.Fatalf("Find of %v is %v beside false", x, got)
	}
	return got, ok
}

func refuses(t *testing.T, why string, l []api.Item, want api.Errno) {
	t.Helper()
	for _, ahead := range [][]byte{nil, []byte("ahead"), block(row(3)...)} {
		if _, e := put(t, ahead, l); e != want {
			t.Errorf("%s: Put of %d is %v, not %v", why, len(l), e, want)
		}
	}
}

func corrupt(t *testing.T, why string, b []byte, at int) {
	t.Helper()
	if l, next, e := take(t, b, at); e != api.ErrCorrupt {
		t.Errorf("%s: Take(%.40x, %d) is %v, %d, %v", why, b, at, l, next, e)
	}
}

func takes(t *testing.T, why string, b []byte, at int, want []api.Item, behind int) {
	t.Helper()
	l, next, e := take(t, b, at)
	if e != api.OK || !slices.Equal(l, want) || next != behind {
		t.Errorf("%s: Take(%.40x, %d) is %.5v, %d, %v, not %.5v, %d", why, b, at, l, next, e, want, behind)
	}
}
