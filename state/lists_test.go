package state

import (
	"math"
	"math/rand/v2"
	"slices"
	"testing"

	"clepsydra/api"
)

func sample(series int, time, version uint64, value int64) api.Item {
	return api.Item{Series: series, Kind: api.ISample, Time: time, Version: version, Value: value}
}

func tomb(series int, version uint64) api.Item {
	return api.Item{Series: series, Kind: api.ITomb, Version: version}
}

func list(l ...api.Item) []api.Item { return l }

// bad answers items that may not be, each by one of 5.1's bounds.
func bad() []api.Item {
	return list(
		api.Item{},
		api.Item{Series: 1, Version: 5},
		api.Item{Series: 1, Kind: 3, Version: 5},
		api.Item{Series: 1, Kind: -1, Version: 5},
		sample(-1, 1, 5, 1), sample(256, 1, 5, 1), tomb(-1, 5), tomb(256, 5),
		sample(1, 1<<40+1, 5, 1), sample(1, math.MaxUint64, 5, 1),
		sample(1, 1, 0, 1), sample(1, 1, 1<<48+1, 1), sample(1, 1, math.MaxUint64, 1),
		tomb(1, 0), tomb(1, 1<<48+1), tomb(1, math.MaxUint64),
		api.Item{Series: 1, Kind: api.ITomb, Time: 1, Version: 5},
		api.Item{Series: 1, Kind: api.ITomb, Version: 5, Value: 1},
		api.Item{Series: 1, Kind: api.ITomb, Version: 5, Value: -1},
	)
}

// few answers items that get in each other's way in every manner there is.
func few() []api.Item {
	return list(
		tomb(1, 1), tomb(1, 2),
		sample(1, 0, 1, 0), sample(1, 0, 2, 0), sample(1, 0, 2, 1), sample(1, 0, 3, -1),
		sample(1, 1, 2, 0), sample(1, 1, 3, 0),
		tomb(2, 2), sample(2, 0, 2, 0), sample(2, 0, 3, 0),
		sample(1, 0, 0, 0), sample(256, 0, 3, 0),
	)
}

// lists answers all lists of at most n of few's items, in every order.
func lists(n int) [][]api.Item {
	all := [][]api.Item{nil}
	for from := 0; n > 0; n-- {
		to := len(all)
		for _, l := range all[from:to] {
			for _, x := range few() {
				all = append(all, append(slices.Clone(l), x))
			}
		}
		from = to
	}
	return all
}

// anyItem answers an item that r picks, seldom one that may not be. The few
// places there are, at the ends of what may be, are met again and again.
func anyItem(r *rand.Rand) api.Item {
	if r.IntN(12) == 0 {
		return bad()[r.IntN(len(bad()))]
	}
	series := []int{0, 1, 254, 255}[r.IntN(4)]
	version := []uint64{1, 2, 3, 4, 5, 1<<48 - 1, 1 << 48}[r.IntN(7)]
	if r.IntN(6) == 0 {
		return tomb(series, min(version, 4))
	}
	time := []uint64{0, 1, 2, 300, 1<<40 - 1, 1 << 40}[r.IntN(6)]
	value := []int64{math.MinInt64, -1, 0, 1, math.MaxInt64}[r.IntN(5)]
	return sample(series, time, version, value)
}

func anyList(r *rand.Rand, n int) []api.Item {
	var l []api.Item
	for range n {
		l = append(l, anyItem(r))
	}
	return l
}

// spare answers l with room behind it, and a look at whether that room or l was
// changed.
func spare(l []api.Item) (own []api.Item, same func() bool) {
	all := append(slices.Clone(l), sample(9, 9, 9, 9), tomb(200, 9))
	was := slices.Clone(all)
	return all[:len(l)], func() bool { return slices.Equal(all, was) }
}

// fresh asks call for a list, and fails where it changes what it is given, or
// where what it answers is not memory of its own, spare room too.
func fresh(t *testing.T, call func(a, b []api.Item) []api.Item, a, b []api.Item) []api.Item {
	t.Helper()
	inA, sameA := spare(a)
	inB, sameB := spare(b)
	got, again := call(inA, inB), call(inA, inB)
	told := slices.Clone(got)
	for i := range got[:cap(got)] {
		got[:cap(got)][i] = api.Item{Series: -7}
	}
	if !sameA() || !sameB() {
		t.Fatalf("%v, %v: changed, or lent", a, b)
	}
	if !slices.Equal(told, again) {
		t.Fatalf("%v, %v: %v, and then %v", a, b, told, again)
	}
	return told
}

func add(t *testing.T, l []api.Item, x api.Item) []api.Item {
	t.Helper()
	return fresh(t, func(a, _ []api.Item) []api.Item { return Add(a, x) }, l, nil)
}

func of(t *testing.T, l []api.Item) []api.Item {
	t.Helper()
	return fresh(t, func(a, _ []api.Item) []api.Item { return Of(a) }, l, nil)
}

func join(t *testing.T, a, b []api.Item) []api.Item {
	t.Helper()
	return fresh(t, Join, a, b)
}

func want(t *testing.T, why string, got, want []api.Item) {
	t.Helper()
	if !slices.Equal(got, want) {
		t.Errorf("%s: %v, want %v", why, got, want)
	}
}
