package mem

import (
	"bytes"
	"encoding/binary"
	"math"
	"math/rand/v2"
	"slices"
	"testing"

	"clepsydra/api"
	"clepsydra/item"
)

// plain is a second Mem, written by the words of 9.1: what it has, in the order
// in which the places came.
type plain struct {
	items  []api.Item
	frozen bool
}

func (p *plain) apply(l []api.Item) api.Errno {
	if p.frozen {
		return api.ErrReadOnly
	}
	for _, x := range l {
		if !item.Ok(x) {
			return api.ErrArg
		}
	}
	for _, x := range l {
		p.lay(x)
	}
	return api.OK
}

func (p *plain) lay(x api.Item) {
	for i, y := range p.items {
		if !item.Same(x, y) {
			continue
		}
		if item.Wins(x, y) {
			p.items[i] = x
		}
		return
	}
	p.items = append(p.items, x)
}

func (p *plain) rising() []api.Item {
	row := slices.Clone(p.items)
	slices.SortFunc(row, func(a, b api.Item) int { return bytes.Compare(item.Key(a), item.Key(b)) })
	return row
}

// pair is a Mem and the plain one, that are told the same.
type pair struct {
	t *testing.T
	m *Mem
	p plain
}

func (b *pair) apply(l []api.Item) {
	b.t.Helper()
	was := slices.Clone(l)
	if e, want := b.m.Apply(l), b.p.apply(l); e != want {
		b.t.Fatalf("Apply(%v) is %v, not %v", l, e, want)
	}
	if !slices.Equal(l, was) {
		b.t.Fatalf("Apply changed %v to %v", was, l)
	}
}

func (b *pair) freeze() {
	b.m.Freeze()
	b.p.frozen = true
}

func (b *pair) look() {
	b.t.Helper()
	frozen(b.t, b.m, b.p.frozen)
	if holds(b.t, b.m, b.p.rising()...); b.t.Failed() {
		b.t.FailNow()
	}
}

// 9.2

func TestRowsOfAppliesAgainstThePlainMem(t *testing.T) {
	for seed := range uint64(300) {
		r := rand.New(rand.NewPCG(9, seed))
		b := &pair{t: t, m: New()}
		for range 60 {
			b.apply(anyBatch(r))
			b.look()
			if r.IntN(150) == 0 {
				b.freeze()
			}
		}
		b.freeze()
		b.apply(anyBatch(r))
		b.look()
	}
}

// All rows of four items that get in each other's way, in one Apply and in four.
func TestAllShortRows(t *testing.T) {
	few := list(
		sample(1, 0, 2, 0), sample(1, 0, 2, 1), sample(1, 0, 3, -1), sample(1, 0, 1, 5),
		tomb(1, 2), tomb(1, 3), sample(0, 9, 2, 0), sample(2, 0, 2, 0), api.Item{},
	)
	ways := len(few)
	for n := range ways * ways * ways * ways {
		whole, single := &pair{t: t, m: New()}, &pair{t: t, m: New()}
		var l []api.Item
		for range 4 {
			l = append(l, few[n%ways])
			n /= ways
		}
		whole.apply(l)
		whole.look()
		for i := range l {
			single.apply(l[i : i+1])
		}
		single.look()
	}
}

// Neither the order counts, nor how often, nor how many at once.
func TestRowsInAnyOrderAreTheSame(t *testing.T) {
	r := rand.New(rand.NewPCG(9, 2))
	var row []api.Item
	for n := range 400 {
		row = append(row, tomb(n%9, uint64(1+n)))
		for v := range uint64(3) {
			row = append(row, sample(n%7, uint64(n), v+1, int64(n)-200))
		}
	}
	first := New()
	applies(t, first, row...)
	want := first.Items()
	for range 20 {
		r.Shuffle(len(row), func(i, j int) { row[i], row[j] = row[j], row[i] })
		m := New()
		for part := range slices.Chunk(row, 1+r.IntN(300)) {
			applies(t, m, part...)
			applies(t, m, part[:r.IntN(len(part)+1)]...)
		}
		if holds(t, m, want...); t.Failed() {
			t.FailNow()
		}
	}
}

// 9.3

// read makes an item of any numbers, small ones more often.
func read(b []byte) (x api.Item, left []byte) {
	x = api.Item{Series: int(b[1] % 4), Kind: int(b[2]%8)/3 + 1, Time: uint64(b[3] % 8), Version: uint64(b[4]), Value: int64(int8(b[5]))}
	if x.Kind == api.ITomb {
		x.Time, x.Value = 0, 0
	}
	wide := b[0]
	b = b[6:]
	if wide < 240 || len(b) < 8 {
		return x, b
	}
	n := binary.LittleEndian.Uint64(b)
	switch wide % 5 {
	case 0:
		x.Series = int(n)
	case 1:
		x.Kind = int(n)
	case 2:
		x.Time = n
	case 3:
		x.Version = n
	case 4:
		x.Value = int64(n)
	}
	return x, b[8:]
}

func FuzzNoCallPanics(f *testing.F) {
	f.Add([]byte(nil), 0)
	f.Add([]byte("\x00\x01\x03\x05\x05\x01\x00\x01\x03\x05\x06\x02\x00\x01\x01\x00\x01\x00"), 2)
	f.Add([]byte("\xf5\x01\x03\x05\x05\x01\x00\x00\x00\x00\x00\x00\x00\x80"), math.MinInt)
	r := rand.New(rand.NewPCG(9, 4))
	for range 200 {
		var b [240]byte
		for i := range b {
			b[i] = byte(1 + r.IntN(5))
			if r.IntN(100) == 0 {
				b[i] = byte(r.IntN(256))
			}
		}
		f.Add(b[:], r.IntN(60))
	}
	f.Fuzz(func(t *testing.T, in []byte, end int) {
		b := &pair{t: t, m: New()}
		for n := 0; len(in) >= 6; n++ {
			var l []api.Item
			for size := int(in[0] % 5); size >= 0 && len(in) >= 6; size-- {
				var x api.Item
				x, in = read(in)
				l = append(l, x)
				if h := Height(x); h != pairs(x) {
					t.Errorf("Height(%v) is %d", x, h)
				}
			}
			if n == end {
				b.freeze()
			}
			b.apply(l)
			b.look()
		}
		b.look()
	})
}
