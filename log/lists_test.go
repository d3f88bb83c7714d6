package log

import (
	"bytes"
	"encoding/binary"
	"hash/crc32"
	"math"
	"math/rand/v2"
	"slices"
	"testing"

	"clepsydra/api"
	"clepsydra/disk"
)

func sample(series int, time, version uint64, value int64) api.Item {
	return api.Item{Series: series, Kind: api.ISample, Time: time, Version: version, Value: value}
}

func tomb(series int, version uint64) api.Item {
	return api.Item{Series: series, Kind: api.ITomb, Version: version}
}

func list(l ...api.Item) []api.Item { return l }

// row answers n items, the same at each run, deletes among them. They neither
// rise nor stand each at a place of its own: a batch keeps them as they are.
func row(n int) []api.Item {
	l := make([]api.Item, n)
	for i := range l {
		l[i] = sample(i*7%256, uint64(i*i%1000), uint64(1+(n-i)%300), int64(5-i%11))
		if i%10 == 0 {
			l[i] = tomb(i%256, uint64(1+i%3))
		}
	}
	return l
}

// widest answers n items none of which could have more bytes.
func widest(n int) []api.Item {
	return slices.Repeat(list(sample(255, 1<<40, 1<<48, math.MinInt64)), n)
}

// edges answers items each of which stands at a bound of 5.1.
func edges() []api.Item {
	return list(
		tomb(0, 1), tomb(255, 1<<48), sample(0, 0, 1, 0), sample(255, 1<<40, 1<<48, math.MaxInt64),
		sample(0, 1<<40, 1, math.MinInt64), sample(255, 0, 1<<48, -1), sample(127, 127, 127, 63), sample(128, 128, 128, 64),
	)
}

// bad answers items that may not be, each by one of 5.1's bounds.
func bad() []api.Item {
	return list(
		api.Item{},
		api.Item{Series: 3, Version: 5},
		api.Item{Series: 3, Kind: -1, Version: 5},
		api.Item{Series: 3, Kind: 3, Version: 5},
		api.Item{Series: 3, Kind: 256 + api.ITomb, Version: 5},
		api.Item{Series: 3, Kind: 256 + api.ISample, Version: 5},
		sample(-1, 1, 5, 1), sample(256, 1, 5, 1), sample(math.MinInt, 1, 5, 1), sample(math.MaxInt, 1, 5, 1),
		sample(3, 1<<40+1, 5, 1), sample(3, math.MaxUint64, 5, 1),
		sample(3, 1, 0, 1), sample(3, 1, 1<<48+1, 1), sample(3, 1, math.MaxUint64, 1),
		tomb(-1, 5), tomb(256, 5), tomb(3, 0), tomb(3, 1<<48+1),
		api.Item{Series: 3, Kind: api.ITomb, Time: 1, Version: 5},
		api.Item{Series: 3, Kind: api.ITomb, Version: 5, Value: 1},
	)
}

// three answers batches of one item and of several.
func three() [][]api.Item {
	return [][]api.Item{list(sample(3, 60, 4, -7)), append(edges(), row(12)...), list(tomb(3, 5), sample(3, 60, 4, -7))}
}

// The second hand: bytes and batches by the words of 14.1, 5.2, 3.1 and 2.1.

func seal(b []byte) []byte {
	s := crc32.Checksum(b, crc32.MakeTable(crc32.Castagnoli))
	return binary.LittleEndian.AppendUint32(bytes.Clone(b), s)
}

func sealed(b []byte) bool {
	return bytes.Equal(seal(b[:len(b)-4]), b)
}

// head answers a frame's sealed head, also one that may not be.
func head(kind, n int) []byte {
	return seal(append([]byte{byte(kind)}, binary.BigEndian.AppendUint32(nil, uint32(n))[1:]...))
}

func framed(kind int, body []byte) []byte {
	return append(head(kind, len(body)), seal(body)...)
}

// coded writes l as 5.2 says it, also items that may not be.
func coded(l ...api.Item) []byte {
	b := binary.AppendUvarint(nil, uint64(len(l)))
	for _, x := range l {
		b = append(b, byte(x.Series), byte(x.Kind))
		b = binary.AppendUvarint(b, x.Time)
		b = binary.AppendUvarint(b, x.Version)
		b = binary.AppendVarint(b, x.Value)
	}
	return b
}

func batch(l ...api.Item) []byte {
	return framed(1, coded(l...))
}

// written answers the bytes of the log of these batches.
func written(batches ...[]api.Item) []byte {
	var b []byte
	for _, l := range batches {
		b = append(b, batch(l...)...)
	}
	return b
}

func mayBe(x api.Item) bool {
	if x.Series < 0 || x.Series > 255 || x.Version == 0 || x.Version > 1<<48 {
		return false
	}
	return x.Kind == 2 && x.Time <= 1<<40 || x.Kind == 1 && x.Time == 0 && x.Value == 0
}

// refusal answers the error of Batch of l.
func refusal(l []api.Item) api.Errno {
	switch {
	case len(l) == 0:
		return api.ErrArg
	case len(l) > 2000:
		return api.ErrLong
	case slices.ContainsFunc(l, func(x api.Item) bool { return !mayBe(x) }):
		return api.ErrArg
	case len(coded(l...)) > 60000:
		return api.ErrLong
	}
	return api.OK
}

// decoded answers the items that a Batch wrote as b, and false if none did.
func decoded(b []byte) ([]api.Item, bool) {
	n, size := binary.Uvarint(b)
	if size <= 0 || n > 2000 {
		return nil, false
	}
	left := b[size:]
	ok := true
	number := func() uint64 {
		n, size := binary.Uvarint(left)
		ok = ok && size > 0
		left = left[max(size, 0):]
		return n
	}
	var l []api.Item
	for range n {
		if len(left) < 2 {
			return nil, false
		}
		x := api.Item{Series: int(left[0]), Kind: int(left[1])}
		left = left[2:]
		x.Time, x.Version = number(), number()
		z := number()
		x.Value = int64(z>>1) ^ -int64(z&1)
		l = append(l, x)
	}
	return l, ok && refusal(l) == api.OK && bytes.Equal(coded(l...), b)
}

func plainReplay(b []byte) (l [][]api.Item, end int, e api.Errno) {
	for len(b)-end >= 8 {
		left := b[end:]
		n := int(left[1])<<16 | int(left[2])<<8 | int(left[3])
		if !sealed(left[:8]) || left[0] < 1 || left[0] > 100 || n > 60000 {
			return nil, 0, api.ErrCorrupt
		}
		if len(left) < 8+n+4 {
			break
		}
		items, ok := decoded(left[8 : 8+n])
		if !sealed(left[8:8+n+4]) || left[0] != 1 || !ok {
			return nil, 0, api.ErrCorrupt
		}
		l, end = append(l, items), end+8+n+4
	}
	return l, end, api.OK
}

func join(parts ...[]byte) []byte {
	return bytes.Join(parts, nil)
}

func turn(b []byte, bit int) {
	b[bit/8] ^= 1 << (bit % 8)
}

// text answers n bytes, the same at each run.
func text(n int) []byte {
	r := rand.New(rand.NewPCG(uint64(n), 14))
	b := make([]byte, n)
	for i := range b {
		b[i] = byte(r.Uint32())
	}
	return b
}

// spare answers l with room behind it, and a look at whether that room or l was
// changed.
func spare[T comparable](l []T, behind ...T) (own []T, same func() bool) {
	all := append(slices.Clone(l), behind...)
	was := slices.Clone(all)
	return all[:len(l)], func() bool { return slices.Equal(all, was) }
}

// spoil changes all of l, its spare room too.
func spoil[T any](l []T, by T) {
	for i := range l[:cap(l)] {
		l[:cap(l)][i] = by
	}
}

func sameBatches(a, b [][]api.Item) bool {
	return slices.EqualFunc(a, b, slices.Equal)
}

// cloned answers the batches in other memory. It spoils the given ones one by
// one, and fails where that can be seen in another.
func cloned(t *testing.T, l [][]api.Item) [][]api.Item {
	t.Helper()
	own := make([][]api.Item, len(l))
	for i, items := range l {
		own[i] = slices.Clone(items)
	}
	for i, items := range l {
		spoil(items, api.Item{Series: -7})
		if !sameBatches(l[i+1:], own[i+1:]) {
			t.Fatalf("batches behind %d share its memory", i)
		}
	}
	spoil(l, list(api.Item{Series: -8}))
	return own
}

// batched asks Batch, and fails where it changes what it is given, lends it, or
// tells more than an error.
func batched(t *testing.T, l []api.Item) ([]byte, api.Errno) {
	t.Helper()
	in, same := spare(l, append(row(30), api.Item{})...)
	got, e := Batch(in)
	was := bytes.Clone(got)
	spoil(got, 0x55)
	if again, _ := Batch(in); !bytes.Equal(again, was) || !same() {
		t.Fatalf("Batch of %d, %.3v, changes what it is given, or lends it", len(l), l)
	}
	if e != api.OK && got != nil {
		t.Fatalf("Batch of %d, %.3v, is %.40x beside %v", len(l), l, was, e)
	}
	return was, e
}

// replayed asks Replay, likewise.
func replayed(t *testing.T, b []byte) ([][]api.Item, int, api.Errno) {
	t.Helper()
	in, same := spare(b, batch(tomb(9, 9))...)
	got, end, e := Replay(in)
	again, _, _ := Replay(in)
	if e != api.OK && (got != nil || end != 0) {
		t.Fatalf("Replay of %.40x is %v, %d beside %v", b, got, end, e)
	}
	if !same() {
		t.Fatalf("Replay of %.40x changes what it is given", b)
	}
	spoil(in, 0x55)
	own := cloned(t, got)
	if !sameBatches(own, again) {
		t.Fatalf("Replay of %.40x lends %v", b, own)
	}
	return own, end, e
}

// replays fails where b does not have these batches, up to end.
func replays(t *testing.T, why string, b []byte, want [][]api.Item, end int) {
	t.Helper()
	got, at, e := replayed(t, b)
	if !sameBatches(got, want) || at != end || e != api.OK {
		t.Fatalf("%s: Replay is %.3v, %d batches to %d, %v, not %d to %d", why, got, len(got), at, e, len(want), end)
	}
}

func corrupt(t *testing.T, why string, b []byte) {
	t.Helper()
	if _, _, e := replayed(t, b); e != api.ErrCorrupt {
		t.Errorf("%s: Replay of %.60x is %v", why, b, e)
	}
}

// Disks.

func done(t *testing.T, l ...api.Errno) {
	t.Helper()
	for i, e := range l {
		if e != api.OK {
			t.Fatalf("call %d is %v", i, e)
		}
	}
}

func expect(t *testing.T, why string, got, want api.Errno) {
	t.Helper()
	if got != want {
		t.Errorf("%s: %v, not %v", why, got, want)
	}
}

// diskOf answers a Disk whose file "log.1" has these bytes, that last.
func diskOf(t *testing.T, b []byte) *disk.Disk {
	t.Helper()
	d := disk.New(1 << 20)
	done(t, d.Create("log.1"), d.Append("log.1", b), d.Sync("log.1"), d.SyncDir())
	return d
}

// started answers a new Log, and its Disk.
func started(t *testing.T, quota int) (*Log, *disk.Disk) {
	t.Helper()
	d := disk.New(quota)
	g, e := New(d, "log.1")
	done(t, e, d.SyncDir())
	return g, d
}

// opened asks Open, and fails where it lends what it tells, tells more than an
// error, or does anything to the Disk.
func opened(t *testing.T, d *disk.Disk, name string) (*Log, [][]api.Item, bool, api.Errno) {
	t.Helper()
	calls, was := d.Calls(), fileOf(d, name)
	_, first, _, _ := Open(d, name)
	own := cloned(t, first)
	g, l, whole, e := Open(d, name)
	if !sameBatches(l, own) || d.Calls() != calls || fileOf(d, name) != was {
		t.Fatalf("Open of %.40q changes it, or lends what it tells", was)
	}
	if e != api.OK && (g != nil || l != nil || whole) || e == api.OK && g == nil {
		t.Fatalf("Open of %.40q is %v, %v, %v beside %v", was, g, l, whole, e)
	}
	return g, l, whole, e
}

// put asks Put, and fails where it changes what it is given. It spoils that, so
// that a Log that keeps it writes something else.
func put(t *testing.T, g *Log, l []api.Item) api.Errno {
	t.Helper()
	in, same := spare(l, append(row(30), api.Item{})...)
	e := g.Put(in)
	if !same() {
		t.Fatalf("Put of %d, %.3v, changed what it was given", len(l), l)
	}
	spoil(in, tomb(77, 7))
	return e
}

func fileOf(d *disk.Disk, name string) string {
	b, _ := d.Read(name)
	return string(b)
}

// has fails where g, whose file is "log.1" of d, does not have just these
// batches. It asks a Log that was opened anew, too.
func has(t *testing.T, why string, g *Log, d *disk.Disk, batches ...[]api.Item) {
	t.Helper()
	want := written(batches...)
	if got := fileOf(d, "log.1"); got != string(want) {
		t.Fatalf("%s: the file is %.60x, %d bytes, not %.60x, %d bytes", why, got, len(got), want, len(want))
	}
	sized(t, why, g, len(want), len(batches))
	h, l, whole, e := opened(t, d, "log.1")
	if !sameBatches(l, batches) || !whole || e != api.OK {
		t.Fatalf("%s: Open is %.3v, %v, %v", why, l, whole, e)
	}
	sized(t, why, h, len(want), len(batches))
}

func sized(t *testing.T, why string, g *Log, size, count int) {
	t.Helper()
	if g.Size() != size || g.Count() != count {
		t.Fatalf("%s: Size is %d, Count %d, not %d and %d", why, g.Size(), g.Count(), size, count)
	}
}
