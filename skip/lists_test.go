package skip

import (
	"math"
	"math/rand/v2"
	"slices"
	"testing"

	"clepsydra/api"
)

func sample(series int, time, version uint64, value int64) api.Item {
	return api.Item{Series: series, Kind: api.ISample, Time: time, Version: version, Value: value}
}

func tomb(series int, version uint64) api.Item {
	return api.Item{Series: series, Kind: api.ITomb, Version: version}
}

func list(l ...api.Item) []api.Item { return l }

// bad answers items that may not be, each by one of 5.1's bounds.
func bad() []api.Item {
	return list(
		api.Item{},
		api.Item{Series: 1, Version: 5},
		api.Item{Series: 1, Kind: 3, Version: 5},
		api.Item{Series: 1, Kind: -1, Version: 5},
		sample(-1, 1, 5, 1), sample(256, 1, 5, 1), tomb(-1, 5), tomb(256, 5),
		sample(1, 1<<40+1, 5, 1), sample(1, math.MaxUint64, 5, 1),
		sample(1, 1, 0, 1), sample(1, 1, 1<<48+1, 1), sample(1, 1, math.MaxUint64, 1),
		tomb(1, 0), tomb(1, 1<<48+1), tomb(1, math.MaxUint64),
		api.Item{Series: 1, Kind: api.ITomb, Time: 1, Version: 5},
		api.Item{Series: 1, Kind: api.ITomb, Version: 5, Value: 1},
		api.Item{Series: 1, Kind: api.ITomb, Version: 5, Value: -1},
	)
}

func goodHeights() []int { return []int{1, 2, 3, 4, 5, 6} }

func badHeights() []int {
	return []int{math.MinInt, math.MinInt32, -6, -1, 0, 7, 8, 64, 257, 1<<32 + 1, math.MaxInt}
}

// anyItem answers an item that r picks, seldom one that may not be. The few
// places there are, at the ends of what may be, are met again and again.
func anyItem(r *rand.Rand) api.Item {
	if r.IntN(20) == 0 {
		return bad()[r.IntN(len(bad()))]
	}
	series := []int{0, 1, 2, 254, 255}[r.IntN(5)]
	version := []uint64{1, 2, 3, 4, 5, 1<<48 - 1, 1 << 48}[r.IntN(7)]
	if r.IntN(8) == 0 {
		return tomb(series, version)
	}
	time := []uint64{0, 1, 2, 300, 1<<32 - 1, 1 << 32, 1<<40 - 1, 1 << 40}[r.IntN(8)]
	value := []int64{math.MinInt64, -1, 0, 1, math.MaxInt64}[r.IntN(5)]
	return sample(series, time, version, value)
}

// anyHeight answers greater heights less often, as a list wants them, and
// seldom one that may not be.
func anyHeight(r *rand.Rand) int {
	if r.IntN(20) == 0 {
		return badHeights()[r.IntN(len(badHeights()))]
	}
	h := 1
	for h < 6 && r.IntN(3) == 0 {
		h++
	}
	return h
}

// filled answers a List of these items, each at the height 1.
func filled(t *testing.T, l ...api.Item) *List {
	t.Helper()
	own := New()
	for _, x := range l {
		puts(t, own, x, 1, true)
	}
	return own
}

func puts(t *testing.T, l *List, x api.Item, height int, want bool) {
	t.Helper()
	if ok, e := l.Put(x, height); ok != want || e != api.OK {
		t.Errorf("Put(%v, %d) is %v, %v, not %v", x, height, ok, e, want)
	}
}

func refuses(t *testing.T, l *List, x api.Item, height int) {
	t.Helper()
	if ok, e := l.Put(x, height); ok || e != api.ErrArg {
		t.Errorf("Put(%v, %d) is %v, %v", x, height, ok, e)
	}
}

// holds fails where l does not have these items, or not at these levels: the
// first row is that of the level 1, and above the last one there are none.
func holds(t *testing.T, l *List, rows ...[]api.Item) {
	t.Helper()
	rows = append(rows, make([][]api.Item, 6)...)
	if got := l.All(); !slices.Equal(got, rows[0]) {
		t.Errorf("All is %v, not %v", got, rows[0])
	}
	if l.Len() != len(rows[0]) {
		t.Errorf("Len is %d of %d", l.Len(), len(rows[0]))
	}
	for h := 1; h <= 6; h++ {
		if got := l.Level(h); !slices.Equal(got, rows[h-1]) {
			t.Errorf("Level(%d) is %v, not %v", h, got, rows[h-1])
		}
	}
	for _, h := range badHeights() {
		if got := l.Level(h); len(got) != 0 {
			t.Errorf("Level(%d) is %v", h, got)
		}
	}
}

func gets(t *testing.T, l *List, x, want api.Item) {
	t.Helper()
	if got, ok := l.Get(x); got != want || ok != (want != api.Item{}) {
		t.Errorf("Get(%v) is %v, %v, not %v", x, got, ok, want)
	}
}

func finds(t *testing.T, l *List, x, want api.Item) {
	t.Helper()
	if got, ok := l.From(x); got != want || ok != (want != api.Item{}) {
		t.Errorf("From(%v) is %v, %v, not %v", x, got, ok, want)
	}
}
