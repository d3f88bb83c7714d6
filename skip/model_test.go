package skip

import (
	"encoding/binary"
	"math"
	"math/rand/v2"
	"slices"
	"testing"

	"clepsydra/api"
	"clepsydra/item"
)

// plain is a second List, written by the words of 8.1: its items rise, and each
// has its height beside it.
type plain struct {
	items   []api.Item
	heights []int
}

func (p *plain) put(x api.Item, height int) (bool, api.Errno) {
	if !item.Ok(x) || height < 1 || height > 6 {
		return false, api.ErrArg
	}
	at := 0
	for at < len(p.items) && item.Less(p.items[at], x) {
		at++
	}
	if at == len(p.items) || !item.Same(p.items[at], x) {
		p.items = slices.Insert(p.items, at, x)
		p.heights = slices.Insert(p.heights, at, height)
		return true, api.OK
	}
	if !item.Wins(x, p.items[at]) {
		return false, api.OK
	}
	p.items[at] = x
	return true, api.OK
}

func (p *plain) get(x api.Item) (api.Item, bool) {
	for _, y := range p.items {
		if item.Same(x, y) {
			return y, true
		}
	}
	return api.Item{}, false
}

func (p *plain) from(x api.Item) (api.Item, bool) {
	for _, y := range p.items {
		if !item.Less(y, x) {
			return y, true
		}
	}
	return api.Item{}, false
}

func (p *plain) level(h int) []api.Item {
	var row []api.Item
	for i, x := range p.items {
		if h >= 1 && h <= 6 && p.heights[i] >= h {
			row = append(row, x)
		}
	}
	return row
}

// pair is a List and the plain one, that are asked the same.
type pair struct {
	t *testing.T
	l *List
	p *plain
}

func begin(t *testing.T) *pair {
	return &pair{t, New(), &plain{}}
}

func (b *pair) put(x api.Item, height int) {
	b.t.Helper()
	ok, e := b.l.Put(x, height)
	if pok, pe := b.p.put(x, height); ok != pok || e != pe {
		b.t.Fatalf("Put(%v, %d) is %v, %v, not %v, %v", x, height, ok, e, pok, pe)
	}
	if b.l.Len() != len(b.p.items) {
		b.t.Fatalf("Len is %d, not %d, behind Put(%v, %d)", b.l.Len(), len(b.p.items), x, height)
	}
}

func (b *pair) ask(x api.Item) {
	b.t.Helper()
	got, ok := b.l.Get(x)
	if want, pok := b.p.get(x); got != want || ok != pok {
		b.t.Fatalf("Get(%v) is %v, %v, not %v, %v", x, got, ok, want, pok)
	}
	got, ok = b.l.From(x)
	if want, pok := b.p.from(x); got != want || ok != pok {
		b.t.Fatalf("From(%v) is %v, %v, not %v, %v", x, got, ok, want, pok)
	}
}

// look asks twice, since asking changes nothing.
func (b *pair) look() {
	b.t.Helper()
	for range 2 {
		if got := b.l.All(); !slices.Equal(got, b.p.items) || b.l.Len() != len(got) {
			b.t.Fatalf("All is %v, Len %d, not %v", got, b.l.Len(), b.p.items)
		}
		for h := -1; h <= 8; h++ {
			if got, want := b.l.Level(h), b.p.level(h); !slices.Equal(got, want) {
				b.t.Fatalf("Level(%d) is %v, not %v", h, got, want)
			}
		}
	}
}

// 8.1

func TestRowsOfPutsAgainstThePlainList(t *testing.T) {
	for seed := range uint64(200) {
		r := rand.New(rand.NewPCG(8, seed))
		b := begin(t)
		for n := range 300 {
			b.put(anyItem(r), anyHeight(r))
			b.ask(anyItem(r))
			if n%50 == 0 {
				b.look()
			}
		}
		b.look()
	}
}

// Heights of all kinds as often, and heights that are all the same: the lists
// that a search likes least.
func TestRowsOfOddHeights(t *testing.T) {
	for seed := range uint64(60) {
		r := rand.New(rand.NewPCG(9, seed))
		b := begin(t)
		for range 200 {
			x := anyItem(r)
			height := 1 + r.IntN(6)
			if seed%2 == 0 {
				height = 1 + int(seed/2%6)
			}
			b.put(x, height)
			b.ask(anyItem(r))
		}
		b.look()
	}
}

// All rows of four Puts among items that get in each other's way, each at three
// heights.
func TestAllShortRowsOfPuts(t *testing.T) {
	few := list(sample(1, 0, 2, 0), sample(1, 0, 2, 1), sample(1, 0, 3, -1), tomb(1, 2), sample(0, 9, 2, 0), sample(2, 0, 2, 0))
	heights := []int{1, 2, 6}
	ways := len(few) * len(heights)
	for n := range ways * ways * ways * ways {
		b := begin(t)
		for range 4 {
			b.put(few[n%len(few)], heights[n%ways/len(few)])
			n /= ways
		}
		b.look()
		for _, x := range few {
			b.ask(x)
		}
	}
}

// 8.2

func TestLongRowsRise(t *testing.T) {
	const many = 6000
	for name, place := range map[string]func(n int) int{
		"rising":         func(n int) int { return n },
		"falling":        func(n int) int { return many - n },
		"from both ends": func(n int) int { return n*(n%2) + (2*many-n)*(1-n%2) },
		"by steps":       func(n int) int { return n * 1237 % many },
		"again":          func(n int) int { return n * n % 2003 },
	} {
		r := rand.New(rand.NewPCG(8, 2))
		l := New()
		puts := map[api.Item]bool{}
		for n := range many {
			at := place(n)
			x := sample(at%3, uint64(at), 1+r.Uint64N(9), int64(r.IntN(3)))
			if at%100 == 0 {
				x = tomb(at/100, 1+r.Uint64N(9))
			}
			if _, e := l.Put(x, anyGoodHeight(r)); e != api.OK {
				t.Fatal(name, e)
			}
			puts[placeOf(x)] = true
		}
		rises(t, name, l)
		if all := l.All(); len(all) != len(puts) {
			t.Errorf("%s: %d items at %d places", name, len(all), len(puts))
		}
	}
}

func TestRowsInAnyOrderAreTheSame(t *testing.T) {
	r := rand.New(rand.NewPCG(8, 3))
	var row []api.Item
	for n := range 400 {
		for v := range uint64(3) {
			row = append(row, sample(n%7, uint64(n), v+1, int64(n)-200))
		}
	}
	want := New()
	for _, x := range row {
		want.Put(x, 1)
	}
	for range 20 {
		r.Shuffle(len(row), func(i, j int) { row[i], row[j] = row[j], row[i] })
		l := New()
		for _, x := range row {
			l.Put(x, anyGoodHeight(r))
		}
		rises(t, "shuffled", l)
		if !slices.Equal(l.All(), want.All()) {
			t.Fatal("another order tells another list")
		}
	}
}

func anyGoodHeight(r *rand.Rand) int {
	for {
		if h := anyHeight(r); h >= 1 && h <= 6 {
			return h
		}
	}
}

func placeOf(x api.Item) api.Item {
	return api.Item{Series: x.Series, Kind: x.Kind, Time: x.Time}
}

// rises fails where l does not keep 8.2.
func rises(t *testing.T, why string, l *List) {
	t.Helper()
	below := l.All()
	if len(below) != l.Len() {
		t.Errorf("%s: Len is %d of %d", why, l.Len(), len(below))
	}
	for h := 1; h <= 6; h++ {
		level := l.Level(h)
		for i, x := range level {
			if i > 0 && !item.Less(level[i-1], x) {
				t.Fatalf("%s: Level(%d) has %v behind %v", why, h, x, level[i-1])
			}
		}
		if !isRowOf(level, below) {
			t.Fatalf("%s: Level(%d) is no row of the one below", why, h)
		}
		below = level
	}
}

// isRowOf tells whether all of few stand in many, in the same order.
func isRowOf(few, many []api.Item) bool {
	for _, x := range few {
		at := slices.Index(many, x)
		if at < 0 {
			return false
		}
		many = many[at+1:]
	}
	return true
}

// 8.3

// read makes an item and a height of any numbers, small ones more often.
func read(b []byte) (x api.Item, height int, left []byte) {
	x = api.Item{Series: int(int8(b[1])), Kind: int(b[2] % 4), Time: uint64(b[3]), Version: uint64(b[4]), Value: int64(int8(b[5]))}
	height = int(int8(b[6]))
	wide := b[0]
	b = b[7:]
	if wide < 240 || len(b) < 8 {
		return x, height, b
	}
	n := binary.LittleEndian.Uint64(b)
	switch wide % 6 {
	case 0:
		x.Series = int(n)
	case 1:
		x.Kind = int(n)
	case 2:
		x.Time = n
	case 3:
		x.Version = n
	case 4:
		x.Value = int64(n)
	case 5:
		height = int(n)
	}
	return x, height, b[8:]
}

func FuzzNoCallPanics(f *testing.F) {
	f.Add([]byte(nil), 0)
	f.Add([]byte("\x00\x01\x02\x05\x05\x01\x02\x00\x01\x02\x05\x06\x02\x06\x00\x01\x01\x00\x01\x00\x01"), 7)
	f.Add([]byte("\xf5\x01\x02\x05\x05\x01\x02\x00\x00\x00\x00\x00\x00\x00\x80"), math.MinInt)
	r := rand.New(rand.NewPCG(8, 4))
	for range 200 {
		var b [210]byte
		for i := range b {
			b[i] = byte(r.IntN(4))
			if r.IntN(30) == 0 {
				b[i] = byte(r.IntN(256))
			}
		}
		f.Add(b[:], r.IntN(9)-1)
	}
	f.Fuzz(func(t *testing.T, in []byte, h int) {
		b := begin(t)
		for len(in) >= 7 {
			var x api.Item
			var height int
			x, height, in = read(in)
			b.ask(x)
			b.put(x, height)
			b.ask(x)
		}
		b.look()
		if got := b.l.Level(h); !slices.Equal(got, b.p.level(h)) {
			t.Errorf("Level(%d) is %v", h, got)
		}
	})
}
