package merge

import (
	"encoding/binary"
	"math/rand/v2"
	"slices"
	"testing"

	"clepsydra/api"
	"clepsydra/item"
	"clepsydra/state"
)

// The second hand: each call by the words of 13.1.

// placeIn answers how many of l stand ahead of the first that is not Less than x.
func placeIn(l []api.Item, x api.Item) int {
	at := 0
	for at < len(l) && item.Less(l[at], x) {
		at++
	}
	return at
}

func plainRows(rows [][]api.Item) []api.Item {
	var l []api.Item
	for _, row := range rows {
		for _, x := range row {
			at := placeIn(l, x)
			if at == len(l) || !item.Same(l[at], x) {
				l = slices.Insert(l, at, x)
			} else if item.Wins(x, l[at]) {
				l[at] = x
			}
		}
	}
	return l
}

func plainClean(l []api.Item) []api.Item {
	var own []api.Item
	for _, x := range l {
		if !slices.ContainsFunc(l, func(t api.Item) bool { return item.Hides(t, x) }) {
			own = append(own, x)
		}
	}
	return own
}

func plainWithout(l []api.Item, v uint64) []api.Item {
	var own []api.Item
	for _, x := range plainClean(l) {
		if x.Kind == api.ITomb && x.Version <= v {
			continue
		}
		own = append(own, x)
	}
	return own
}

func plainOverlap(a, b []api.Item) bool {
	if len(a) == 0 || len(b) == 0 {
		return false
	}
	greater := func(x, y api.Item) bool { return item.Less(y, x) }
	return !greater(a[0], b[len(b)-1]) && !greater(b[0], a[len(a)-1])
}

// walk asks an Iter of rows for Next and Seek in any order, and holds it against
// the list that it goes through.
func walk(t *testing.T, r *rand.Rand, rows [][]api.Item, l []api.Item) {
	t.Helper()
	it := started(t, rows)
	at := 0
	for range 2*len(l) + 10 {
		if r.IntN(4) == 0 {
			x := anyOdd(r)
			it.Seek(x)
			at = placeIn(l, x)
			continue
		}
		got, ok := it.Next()
		if ok != (at < len(l)) || ok && got != l[at] || !ok && got != (api.Item{}) {
			t.Fatalf("Next at %d of %v is %v, %v", at, l, got, ok)
		}
		if ok {
			at++
		}
	}
}

// 13.1

func TestRowsAgainstThePlainOnes(t *testing.T) {
	for seed := range uint64(3000) {
		r := rand.New(rand.NewPCG(13, seed))
		pick := anyItem
		if seed%3 == 0 {
			pick = anyOdd
		}
		rows := anyRows(r, pick)
		l := merged(t, rows)
		want(t, "Rows", l, plainRows(rows))
		want(t, "Clean", cleaned(t, l), plainClean(l))
		v := anyOdd(r).Version
		want(t, "Without", without(t, l, v), plainWithout(l, v))
		walk(t, r, rows, l)
		for i := 1; i < len(rows); i++ {
			if got := overlaps(t, rows[i-1], rows[i]); got != plainOverlap(rows[i-1], rows[i]) {
				t.Errorf("Overlap of %v and %v is %v", rows[i-1], rows[i], got)
			}
		}
		if t.Failed() {
			t.Fatal("of", rows)
		}
	}
}

// 13.2

// stateOf fails where the merged row of rows, that rise and may be, is not the
// state of all.
func stateOf(t *testing.T, rows [][]api.Item, versions ...uint64) {
	t.Helper()
	l, all := Rows(rows), state.Of(slices.Concat(rows...))
	clean := Clean(l)
	if !state.Same(clean, all) || !state.Ok(clean) {
		t.Fatalf("of %v: %v, not %v", rows, clean, all)
	}
	if of := state.Of(l); !state.Same(of, all) {
		t.Fatalf("of %v: the state of Rows is %v, not %v", rows, of, all)
	}
	for _, v := range versions {
		if got, purged := Without(l, v), state.Purge(all, v); !state.Same(got, purged) || !state.Ok(got) {
			t.Fatalf("of %v without %d: %v, not %v", rows, v, got, purged)
		}
	}
}

// All threes of rows with at most one delete and two samples, of three versions
// each.
func TestAllShortRowsAreTheState(t *testing.T) {
	const kinds = 4 * 4 * 4
	var rows [kinds][]api.Item
	for n := range rows {
		for i, x := range list(tomb(1, 0), sample(1, 0, 0, 5), sample(1, 7, 0, 5)) {
			x.Version = uint64(n >> (2 * i) & 3)
			if x.Version > 0 {
				rows[n] = append(rows[n], x)
			}
		}
	}
	for i := range kinds {
		for j := range kinds {
			for k := range kinds {
				three := rowsOf(rows[i], rows[j], rows[k])
				stateOf(t, three, 0, 1, 2, 3)
				if l := Rows(three); !slices.Equal(l, plainRows(three)) {
					t.Fatalf("Rows of %v is %v", three, l)
				}
			}
		}
	}
}

func TestMergedRowsAreTheState(t *testing.T) {
	for seed := range uint64(3000) {
		r := rand.New(rand.NewPCG(132, seed))
		rows := anyRows(r, anyItem)
		stateOf(t, rows, 0, 1, 3, 5, 1<<48-1, 1<<48)
		// Neither an order of the rows counts, nor how often one is there, nor
		// what was made one already.
		l := Rows(rows)
		turned := append(slices.Clone(rows), rows...)
		r.Shuffle(len(turned), func(i, j int) { turned[i], turned[j] = turned[j], turned[i] })
		want(t, "turned", Rows(turned), l)
		n := r.IntN(len(rows) + 1)
		want(t, "by parts", Rows(rowsOf(Rows(rows[:n]), Rows(rows[n:]))), l)
		want(t, "cleaned ahead", Clean(Rows(rowsOf(Clean(Rows(rows[:n])), Clean(Rows(rows[n:]))))), Clean(l))
	}
}

// 13.3

// odds fails where a call on rows that may not rise tells items that were not
// handed in, or more than were.
func odds(t *testing.T, rows [][]api.Item, x api.Item, v uint64) {
	t.Helper()
	all := slices.Concat(rows...)
	l := merged(t, rows)
	if len(l) > len(all) {
		t.Fatalf("%d items of %d", len(l), len(all))
	}
	it := started(t, rows)
	tells(t, "as Rows", it, l)
	it.Seek(x)
	for n := 0; ; n++ {
		if _, ok := it.Next(); !ok {
			break
		} else if n == len(l) {
			t.Fatalf("more than %d items behind Seek", n)
		}
	}
	for _, y := range l {
		if !slices.Contains(all, y) {
			t.Fatalf("%v is not of %v", y, rows)
		}
	}
	want(t, "Clean", cleaned(t, all), plainClean(all))
	want(t, "Without", without(t, all, v), plainWithout(all, v))
	for _, row := range rows {
		if got := overlaps(t, row, all); got != plainOverlap(row, all) {
			t.Errorf("Overlap of %v and %v is %v", row, all, got)
		}
	}
}

func TestRowsThatDoNotRise(t *testing.T) {
	for _, rows := range [][][]api.Item{
		{times(3, 2, 1)},
		{times(1, 1, 1)},
		{times(3, 2, 1), times(1, 2, 3)},
		{times(1, 1, 1), times(1, 1)},
		{times(9, 1, 9, 1), times(5, 5), nil, times(1, 9, 1, 9)},
		{list(sample(1, 1, 5, 1), tomb(1, 5)), list(tomb(1, 6), sample(0, 1, 5, 1))},
		{list(sample(3, 1, 1, 1), sample(1, 1, 1, 1), api.Item{}), list(api.Item{}, api.Item{})},
		{make([]api.Item, 100), make([]api.Item, 7)},
	} {
		for _, x := range append(far(), times(0, 1, 2, 9, 10)...) {
			odds(t, rows, x, x.Version)
		}
	}
}

func TestAnyRowsEnd(t *testing.T) {
	for seed := range uint64(3000) {
		r := rand.New(rand.NewPCG(133, seed))
		rows := make([][]api.Item, r.IntN(8))
		for i := range rows {
			rows[i] = anyList(r, r.IntN(10), anyOdd)
		}
		odds(t, rows, anyOdd(r), anyOdd(r).Version)
	}
}

// read makes rows of items of any numbers, small ones more often.
func read(b []byte) [][]api.Item {
	var rows [][]api.Item
	for len(b) >= 6 {
		x := api.Item{Series: int(b[1] % 4), Kind: int(b[2] % 4), Time: uint64(b[3] % 8), Version: uint64(b[4] % 8), Value: int64(int8(b[5]))}
		how := b[0]
		b = b[6:]
		if how >= 240 && len(b) >= 8 {
			n := binary.LittleEndian.Uint64(b)
			b = b[8:]
			switch how % 5 {
			case 0:
				x.Series = int(n)
			case 1:
				x.Kind = int(n)
			case 2:
				x.Time = n
			case 3:
				x.Version = n
			case 4:
				x.Value = int64(n)
			}
		}
		for range how % 16 / 12 {
			rows = append(rows, nil)
		}
		if len(rows) == 0 || how%4 == 0 {
			rows = append(rows, nil)
		}
		rows[len(rows)-1] = append(rows[len(rows)-1], x)
	}
	return rows
}

func FuzzNoCallPanics(f *testing.F) {
	f.Add([]byte(nil), 0, 0, uint64(0), uint64(0))
	f.Add([]byte("\x01\x01\x01\x00\x05\x00\x01\x01\x02\x03\x04\x00\x00\x01\x02\x02\x05\x00\x01\x01\x02\x03\x06\x00"), 1, 2, uint64(3), uint64(5))
	f.Add([]byte("\xf0\x00\x00\x00\x00\x00\xff\xff\xff\xff\xff\xff\xff\xff\xf3\x01\x02\x00\x00\x00\xff\xff\xff\xff\xff\xff\xff\xff"), -1, 258, uint64(1<<63), uint64(1<<48))
	r := rand.New(rand.NewPCG(13, 4))
	for range 200 {
		var b [180]byte
		for i := range b {
			b[i] = byte(r.IntN(8))
			if r.IntN(60) == 0 {
				b[i] = byte(r.IntN(256))
			}
		}
		f.Add(b[:r.IntN(len(b))], r.IntN(4), r.IntN(4), r.Uint64N(8), r.Uint64N(8))
	}
	f.Fuzz(func(t *testing.T, in []byte, series, kind int, time, v uint64) {
		// The second hand is slow of long lists.
		rows := read(in[:min(len(in), 1500)])
		odds(t, rows, api.Item{Series: series, Kind: kind, Time: time}, v)
		for i, row := range rows {
			rows[i] = plainRows(rowsOf(row))
		}
		l := merged(t, rows)
		want(t, "Rows", l, plainRows(rows))
		want(t, "Clean", cleaned(t, l), plainClean(l))
		x := api.Item{Series: series, Kind: kind, Time: time, Version: v}
		it := started(t, rows)
		it.Seek(x)
		tells(t, "Seek", it, l[placeIn(l, x):])
		for i, row := range rows {
			rows[i] = slices.DeleteFunc(row, func(x api.Item) bool { return !item.Ok(x) })
		}
		stateOf(t, rows, v)
	})
}
