package mem

import (
	"math"
	"math/rand/v2"
	"slices"
	"testing"

	"clepsydra/api"
)

func sample(series int, time, version uint64, value int64) api.Item {
	return api.Item{Series: series, Kind: api.ISample, Time: time, Version: version, Value: value}
}

func tomb(series int, version uint64) api.Item {
	return api.Item{Series: series, Kind: api.ITomb, Version: version}
}

func list(l ...api.Item) []api.Item { return l }

// bad answers items that may not be, each by one of 5.1's bounds.
func bad() []api.Item {
	return list(
		api.Item{},
		api.Item{Series: 1, Version: 5},
		api.Item{Series: 1, Kind: 3, Version: 5},
		api.Item{Series: 1, Kind: -1, Version: 5},
		api.Item{Series: 1, Kind: 258, Version: 5},
		sample(-1, 1, 5, 1), sample(256, 1, 5, 1), tomb(-1, 5), tomb(256, 5),
		sample(1, 1<<40+1, 5, 1), sample(1, math.MaxUint64, 5, 1),
		sample(1, 1, 0, 1), sample(1, 1, 1<<48+1, 1), sample(1, 1, math.MaxUint64, 1),
		tomb(1, 0), tomb(1, 1<<48+1), tomb(1, math.MaxUint64),
		api.Item{Series: 1, Kind: api.ITomb, Time: 1, Version: 5},
		api.Item{Series: 1, Kind: api.ITomb, Version: 5, Value: 1},
		api.Item{Series: 1, Kind: api.ITomb, Version: 5, Value: -1},
	)
}

// anyGood answers an item that may be, at one of few places, so that they are
// met again and again.
func anyGood(r *rand.Rand) api.Item {
	series := []int{0, 1, 2, 254, 255}[r.IntN(5)]
	version := []uint64{1, 2, 3, 4, 5, 1<<48 - 1, 1 << 48}[r.IntN(7)]
	if r.IntN(8) == 0 {
		return tomb(series, version)
	}
	time := []uint64{0, 1, 2, 300, 1<<32 - 1, 1 << 32, 1<<40 - 1, 1 << 40}[r.IntN(8)]
	value := []int64{math.MinInt64, -1, 0, 1, math.MaxInt64}[r.IntN(5)]
	return sample(series, time, version, value)
}

// anyBatch answers a list of items, seldom with one among them that may not be.
func anyBatch(r *rand.Rand) []api.Item {
	l := make([]api.Item, r.IntN(9))
	for i := range l {
		l[i] = anyGood(r)
	}
	if r.IntN(5) == 0 {
		l = slices.Insert(l, r.IntN(len(l)+1), bad()[r.IntN(len(bad()))])
	}
	return l
}

func applies(t *testing.T, m *Mem, l ...api.Item) {
	t.Helper()
	if e := m.Apply(l); e != api.OK {
		t.Errorf("Apply(%v) is %v", l, e)
	}
}

func refuses(t *testing.T, m *Mem, want api.Errno, l ...api.Item) {
	t.Helper()
	if e := m.Apply(l); e != want {
		t.Errorf("Apply(%v) is %v, not %v", l, e, want)
	}
}

// holds fails where m does not have these items. It asks twice, since asking
// changes nothing.
func holds(t *testing.T, m *Mem, want ...api.Item) {
	t.Helper()
	for range 2 {
		if got := m.Items(); !slices.Equal(got, want) {
			t.Errorf("Items is %v, not %v", got, want)
		}
		if m.Len() != len(want) {
			t.Errorf("Len is %d of %d", m.Len(), len(want))
		}
		if m.Bytes() != 28*len(want) {
			t.Errorf("Bytes is %d of %d items", m.Bytes(), len(want))
		}
	}
}

func frozen(t *testing.T, m *Mem, want bool) {
	t.Helper()
	if m.Frozen() != want {
		t.Errorf("Frozen is %v", m.Frozen())
	}
}
