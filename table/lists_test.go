package table

import (
	"bytes"
	"encoding/binary"
	"hash/crc32"
	"hash/fnv"
	"math"
	"math/rand/v2"
	"slices"
	"testing"

	"clepsydra/api"
)

func sample(series int, time, version uint64, value int64) api.Item {
	return api.Item{Series: series, Kind: api.ISample, Time: time, Version: version, Value: value}
}

func tomb(series int, version uint64) api.Item {
	return api.Item{Series: series, Kind: api.ITomb, Version: version}
}

func list(l ...api.Item) []api.Item { return l }

// row answers n items that rise, the same at each run, deletes among them. Their
// Versions and Values go up and down, which must not matter.
func row(n int) []api.Item {
	l := make([]api.Item, n)
	for i := range l {
		l[i] = sample(i/10, uint64(i%10*i), uint64(1+(n-i)%7), int64(5-i%11))
		if i%10 == 0 {
			l[i] = tomb(i/10, uint64(1+i%3))
		}
	}
	return l
}

// widest answers n items none of which could have more bytes.
func widest(n int) []api.Item {
	l := make([]api.Item, n)
	for i := range l {
		l[i] = sample(255, uint64(1<<40-n+1+i), 1<<48, math.MinInt64)
	}
	return l
}

// tens answers n samples of series 1, at the times 10, 20 and so on.
func tens(n int) []api.Item {
	l := make([]api.Item, n)
	for i := range l {
		l[i] = sample(1, uint64(10*(i+1)), uint64(i+1), int64(-i))
	}
	return l
}

// bad answers items that may not be, each by one of 5.1's bounds. All of them
// stand behind low and ahead of high, so that a list rises with any of them
// in between.
func bad() []api.Item {
	return list(
		api.Item{Series: 3, Version: 5},
		api.Item{Series: 3, Kind: -1, Version: 5},
		api.Item{Series: 3, Kind: 3, Version: 5},
		api.Item{Series: 3, Kind: 257, Version: 5},
		api.Item{Series: 3, Kind: 258, Time: 7, Version: 5},
		api.Item{Series: 3, Kind: math.MaxInt, Version: 5},
		sample(3, 1<<40+1, 5, 1), sample(3, math.MaxUint64, 5, 1),
		sample(3, 1, 0, 1), sample(3, 1, 1<<48+1, 1), sample(3, 1, math.MaxUint64, 1),
		tomb(3, 0), tomb(3, 1<<48+1), tomb(3, math.MaxUint64),
		api.Item{Series: 3, Kind: api.ITomb, Time: 1, Version: 5},
		api.Item{Series: 3, Kind: api.ITomb, Time: 1 << 40, Version: 5},
		api.Item{Series: 3, Kind: api.ITomb, Version: 5, Value: 1},
		api.Item{Series: 3, Kind: api.ITomb, Version: 5, Value: -1},
	)
}

func low() api.Item  { return sample(2, 9, 4, 1) }
func high() api.Item { return tomb(4, 4) }

// Series that may not be stand ahead of all, or behind all.
func badSeries() (below, above []api.Item) {
	for _, s := range []int{math.MinInt, -256, -1} {
		below = append(below, sample(s, 1, 5, 1), tomb(s, 5))
	}
	for _, s := range []int{256, 257, 1 << 32, math.MaxInt} {
		above = append(above, sample(s, 1, 5, 1), tomb(s, 5))
	}
	return below, above
}

// around answers x, and items at places beside it, some of which may not be.
func around(x api.Item) []api.Item {
	l := list(x)
	for _, change := range []func(x *api.Item){
		func(x *api.Item) { x.Version, x.Value = 0, 0 },
		func(x *api.Item) { x.Version, x.Value = math.MaxUint64, math.MinInt64 },
		func(x *api.Item) { x.Time++ },
		func(x *api.Item) { x.Time-- },
		func(x *api.Item) { x.Kind++ },
		func(x *api.Item) { x.Kind-- },
		func(x *api.Item) { x.Kind += 256 },
		func(x *api.Item) { x.Series++ },
		func(x *api.Item) { x.Series-- },
		func(x *api.Item) { x.Series += 256 },
		func(x *api.Item) { x.Series -= 256 },
	} {
		y := x
		change(&y)
		l = append(l, y)
	}
	return l
}

// far answers places ahead of and behind all that may be.
func far() []api.Item {
	return list(
		api.Item{}, api.Item{Series: math.MinInt}, api.Item{Series: -1, Kind: 2, Time: math.MaxUint64},
		tomb(0, 1), sample(255, 1<<40, 1<<48, 1),
		api.Item{Series: 255, Kind: 2, Time: math.MaxUint64}, api.Item{Series: 256},
		api.Item{Series: math.MaxInt, Kind: math.MaxInt, Time: math.MaxUint64},
	)
}

// seal answers b with its sum behind it, by another hand than package sum's.
func seal(b []byte) []byte {
	s := crc32.Checksum(b, crc32.MakeTable(crc32.Castagnoli))
	return binary.LittleEndian.AppendUint32(bytes.Clone(b), s)
}

// framed answers the frame of that kind, also one that may not be.
func framed(kind int, body []byte) []byte {
	head := append([]byte{byte(kind)}, binary.BigEndian.AppendUint32(nil, uint32(len(body)))[1:]...)
	return append(seal(head), seal(body)...)
}

func number(n int) []byte {
	return binary.AppendUvarint(nil, uint64(n))
}

func numbers(l ...int) []byte {
	var b []byte
	for _, n := range l {
		b = append(b, number(n)...)
	}
	return b
}

// coded writes l as 5.2 says it, also items that may not be.
func coded(l ...api.Item) []byte {
	b := number(len(l))
	for _, x := range l {
		b = append(b, byte(x.Series), byte(x.Kind))
		b = binary.AppendUvarint(b, x.Time)
		b = binary.AppendUvarint(b, x.Version)
		b = binary.AppendVarint(b, x.Value)
	}
	return b
}

// bitsOf answers the bits of x's key, in a Filter of k of all, as 10.1 and 5.1
// say it.
func bitsOf(x api.Item, k, all int) []int {
	h := fnv.New64a()
	h.Write([]byte{byte(x.Series), byte(x.Kind)})
	h.Write(binary.BigEndian.AppendUint64(nil, x.Time))
	low, high := h.Sum64()%(1<<32), h.Sum64()>>32
	var l []int
	for i := range k {
		l = append(l, int((low+uint64(i)*high)%(1<<32)%uint64(all)))
	}
	return l
}

// filtered writes the Filter of l that New of n and so many bits each gives.
func filtered(n, each int, l []api.Item) []byte {
	size := max((n*each+7)/8, 8)
	set := make([]byte, size)
	k := max(each*7/10, 1)
	for _, x := range l {
		for _, bit := range bitsOf(x, k, 8*size) {
			set[bit/8] |= 1 << (bit % 8)
		}
	}
	return append(numbers(k, size), set...)
}

// sheet is a table, piece by piece: whole blocks, and the bodies of the frames
// behind them. A test may lay each of them otherwise than Make does.
type sheet struct {
	blocks             [][]byte
	index, filter, end []byte
}

// sheetOf answers the sheet of these rows, whatever they are. But for the rows
// it is all as 12.1 says it.
func sheetOf(rows ...[]api.Item) sheet {
	var s sheet
	at := 0
	for _, r := range rows {
		s.blocks = append(s.blocks, framed(2, coded(r...)))
		s.index = join(s.index, number(at), coded(r[:min(1, len(r))]...))
		at += len(s.blocks[len(s.blocks)-1])
	}
	all := slices.Concat(rows...)
	s.filter = filtered(len(all), 10, all)
	s.end = numbers(at, at+len(framed(3, s.index)), len(all))
	return s
}

// frames answers all frames of s, in order.
func (s sheet) frames() [][]byte {
	return append(slices.Clone(s.blocks), framed(3, s.index), framed(4, s.filter), framed(5, s.end))
}

func (s sheet) bytes() []byte {
	return join(s.frames()...)
}

// twenties answers l in rows of twenty.
func twenties(l []api.Item) [][]api.Item {
	return slices.Collect(slices.Chunk(l, 20))
}

// written answers the bytes that 12.1 asks for, also of a list that may not be.
func written(l ...api.Item) []byte {
	return sheetOf(twenties(l)...).bytes()
}

func join(parts ...[]byte) []byte {
	return bytes.Join(parts, nil)
}

func turn(b []byte, bit int) {
	b[bit/8] ^= 1 << (bit % 8)
}

// text answers n bytes, the same at each run.
func text(n int) []byte {
	r := rand.New(rand.NewPCG(uint64(n), 12))
	b := make([]byte, n)
	for i := range b {
		b[i] = byte(r.Uint32())
	}
	return b
}

// spare answers l with room behind it, and a look at whether that room or l was
// changed.
func spare[T comparable](l []T, behind ...T) (own []T, same func() bool) {
	all := append(slices.Clone(l), behind...)
	was := slices.Clone(all)
	return all[:len(l)], func() bool { return slices.Equal(all, was) }
}

// spoil changes all of l, its spare room too.
func spoil[T any](l []T, by T) {
	for i := range l[:cap(l)] {
		l[:cap(l)][i] = by
	}
}

// made asks Make, and fails where it changes what it is given, lends it, or
// tells more than an error.
func made(t *testing.T, l []api.Item) ([]byte, api.Errno) {
	t.Helper()
	in, same := spare(l, append(row(30), sample(9, 9, 9, 9), api.Item{})...)
	got, e := Make(in)
	again, _ := Make(in)
	told := bytes.Clone(got)
	spoil(got, 0x55)
	if !same() {
		t.Fatalf("Make of %d, %.5v, changed what it was given", len(l), l)
	}
	if !bytes.Equal(told, again) {
		t.Fatalf("Make of %d, %.5v, is %.40x, and then %.40x", len(l), l, told, again)
	}
	if e != api.OK && got != nil {
		t.Fatalf("Make of %d, %.5v, is %.40x beside %v", len(l), l, told, e)
	}
	return told, e
}

// read asks Read, likewise. It spoils what was handed in, so that a Table that
// keeps it tells something else from then on.
func read(t *testing.T, b []byte) (*Table, api.Errno) {
	t.Helper()
	in, same := spare(b, bytes.Repeat([]byte("behind"), 50)...)
	x, e := Read(in)
	if !same() {
		t.Fatalf("Read of %.40x changed what it was given", b)
	}
	spoil(in, 0x55)
	if (x == nil) != (e != api.OK) {
		t.Fatalf("Read of %.40x is %v beside %v", b, x, e)
	}
	return x, e
}

// table answers the Table of l, by other bytes than Make's.
func table(t *testing.T, l ...api.Item) *Table {
	t.Helper()
	x, e := read(t, written(l...))
	if e != api.OK {
		t.Fatalf("Read of the table of %d is %v", len(l), e)
	}
	return x
}

// told asks twice for a list, spoils the first answer, and fails where that can
// be seen in the second.
func told(t *testing.T, ask func() []api.Item) []api.Item {
	t.Helper()
	got := ask()
	was := slices.Clone(got)
	spoil(got, api.Item{Series: -7})
	if again := ask(); !slices.Equal(again, was) {
		t.Fatalf("what was told as %.5v is lent: %.5v", was, again)
	}
	return was
}

func ranged(t *testing.T, x *Table, from, to api.Item) []api.Item {
	t.Helper()
	return told(t, func() []api.Item { return x.Range(from, to) })
}

// get asks Get, and fails where it tells more than a false.
func get(t *testing.T, x *Table, y api.Item) (api.Item, bool) {
	t.Helper()
	got, ok := x.Get(y)
	if !ok && got != (api.Item{}) {
		t.Fatalf("Get of %v is %v beside false", y, got)
	}
	return got, ok
}

// holds fails where x is not the Table of l.
func holds(t *testing.T, why string, x *Table, l []api.Item) {
	t.Helper()
	if got := told(t, x.All); !slices.Equal(got, l) {
		t.Fatalf("%s: All is %.5v, %d in all, not %.5v, %d", why, got, len(got), l, len(l))
	}
	if n := x.Len(); n != len(l) {
		t.Fatalf("%s: Len is %d, not %d", why, n, len(l))
	}
	var wantFirst, wantLast api.Item
	if len(l) > 0 {
		wantFirst, wantLast = l[0], l[len(l)-1]
	}
	if got, ok := x.First(); got != wantFirst || ok != (len(l) > 0) {
		t.Fatalf("%s: First is %v, %v, not %v", why, got, ok, wantFirst)
	}
	if got, ok := x.Last(); got != wantLast || ok != (len(l) > 0) {
		t.Fatalf("%s: Last is %v, %v, not %v", why, got, ok, wantLast)
	}
}

func makes(t *testing.T, why string, l []api.Item, want api.Errno) {
	t.Helper()
	b, e := made(t, l)
	if e != want {
		t.Errorf("%s: Make of %d, %.5v, is %v, not %v", why, len(l), l, e, want)
	}
	if e == api.OK && !bytes.Equal(b, written(l...)) {
		t.Errorf("%s: Make of %d, %.5v, is %.60x", why, len(l), l, b)
	}
}

func reads(t *testing.T, why string, b []byte, want []api.Item) {
	t.Helper()
	x, e := read(t, b)
	if e != api.OK {
		t.Fatalf("%s: Read of %.40x is %v", why, b, e)
	}
	holds(t, why, x, want)
}

func corrupt(t *testing.T, why string, b []byte) {
	t.Helper()
	if _, e := read(t, b); e != api.ErrCorrupt {
		t.Errorf("%s: Read of %.60x is %v", why, b, e)
	}
}
