package merge

import (
	"math"
	"math/rand/v2"
	"slices"
	"testing"

	"clepsydra/api"
	"clepsydra/item"
)

func sample(series int, time, version uint64, value int64) api.Item {
	return api.Item{Series: series, Kind: api.ISample, Time: time, Version: version, Value: value}
}

func tomb(series int, version uint64) api.Item {
	return api.Item{Series: series, Kind: api.ITomb, Version: version}
}

func list(l ...api.Item) []api.Item { return l }

func rowsOf(rows ...[]api.Item) [][]api.Item { return rows }

// times answers samples of series 1 at these times, all of one Version.
func times(l ...uint64) []api.Item {
	var row []api.Item
	for _, at := range l {
		row = append(row, sample(1, at, 1, 0))
	}
	return row
}

// odd answers items that rise, though none of them may be.
func odd() []api.Item {
	return list(
		api.Item{Series: math.MinInt, Kind: math.MinInt},
		sample(-1, 1, 5, 1),
		api.Item{},
		api.Item{Kind: api.ITomb, Value: 1},
		api.Item{Kind: api.ITomb, Time: 1, Version: 5},
		sample(0, 1, 0, 1), sample(0, 1<<40+1, 5, 1), sample(0, math.MaxUint64, math.MaxUint64, 1),
		api.Item{Kind: 3, Version: 5},
		tomb(1, 1<<48+1),
		tomb(256, 5), sample(256, 1, 5, 1),
		api.Item{Series: math.MaxInt, Kind: math.MaxInt, Time: math.MaxUint64},
	)
}

func rises(l []api.Item) bool {
	for i := range l {
		if i > 0 && !item.Less(l[i-1], l[i]) {
			return false
		}
	}
	return true
}

// anyItem answers an item that r picks, all of which are at few places and get
// in each other's way.
func anyItem(r *rand.Rand) api.Item {
	series := []int{0, 1, 2, 255}[r.IntN(4)]
	version := []uint64{1, 2, 3, 4, 5, 1<<48 - 1, 1 << 48}[r.IntN(7)]
	if r.IntN(5) == 0 {
		return tomb(series, version)
	}
	time := []uint64{0, 1, 2, 300, 1<<40 - 1, 1 << 40}[r.IntN(6)]
	value := []int64{math.MinInt64, -1, 0, 1, math.MaxInt64}[r.IntN(5)]
	return sample(series, time, version, value)
}

// anyOdd answers an item that most often may not be.
func anyOdd(r *rand.Rand) api.Item {
	x := anyItem(r)
	switch r.IntN(6) {
	case 0:
		x.Series = []int{math.MinInt, -1, 256, math.MaxInt}[r.IntN(4)]
	case 1:
		x.Kind = []int{math.MinInt, -1, 0, 3, math.MaxInt}[r.IntN(5)]
	case 2:
		x.Time = []uint64{7, 1<<40 + 1, math.MaxUint64}[r.IntN(3)]
	case 3:
		x.Version = []uint64{0, 1<<48 + 1, math.MaxUint64}[r.IntN(3)]
	case 4:
		x.Value = 9
	}
	return x
}

// anyList answers n items that pick gives, in any order.
func anyList(r *rand.Rand, n int, pick func(*rand.Rand) api.Item) []api.Item {
	l := make([]api.Item, n)
	for i := range l {
		l[i] = pick(r)
	}
	return l
}

// anyRows answers rows that rise, up to nine of them, some of them empty.
func anyRows(r *rand.Rand, pick func(*rand.Rand) api.Item) [][]api.Item {
	rows := make([][]api.Item, r.IntN(10))
	for i := range rows {
		for _, x := range anyList(r, r.IntN(12), pick) {
			at := placeIn(rows[i], x)
			if at == len(rows[i]) || !item.Same(rows[i][at], x) {
				rows[i] = slices.Insert(rows[i], at, x)
			}
		}
	}
	return rows
}

// around answers x, and places beside it.
func around(x api.Item) []api.Item {
	l := list(x)
	for _, change := range []func(x *api.Item){
		func(x *api.Item) { x.Version, x.Value = 0, 0 },
		func(x *api.Item) { x.Version, x.Value = math.MaxUint64, math.MaxInt64 },
		func(x *api.Item) { x.Time++ },
		func(x *api.Item) { x.Time-- },
		func(x *api.Item) { x.Kind++ },
		func(x *api.Item) { x.Kind-- },
		func(x *api.Item) { x.Series++ },
		func(x *api.Item) { x.Series-- },
	} {
		y := x
		change(&y)
		l = append(l, y)
	}
	return l
}

// far answers places ahead of and behind all that may be.
func far() []api.Item {
	return list(
		api.Item{}, api.Item{Series: math.MinInt}, api.Item{Series: -1, Kind: 2, Time: math.MaxUint64},
		tomb(0, 1), sample(255, 1<<40, 1<<48, 1),
		api.Item{Series: 255, Kind: 2, Time: math.MaxUint64}, api.Item{Series: 256},
		api.Item{Series: math.MaxInt, Kind: math.MaxInt, Time: math.MaxUint64},
	)
}

// spare answers l with room behind it, and a look at whether that room or l was
// changed.
func spare(l []api.Item) (own []api.Item, same func() bool) {
	all := append(slices.Clone(l), tomb(8, 8), api.Item{}, sample(7, 7, 7, 7))
	was := slices.Clone(all)
	return all[:len(l)], func() bool { return slices.Equal(all, was) }
}

// lent does so of rows: there is room behind each, and rows behind the last.
func lent(rows [][]api.Item) (own [][]api.Item, same func() bool) {
	var all [][]api.Item
	var looks []func() bool
	for _, row := range append(slices.Clone(rows), list(tomb(0, 9)), nil, list(sample(9, 9, 9, 9))) {
		in, look := spare(row)
		all, looks = append(all, in), append(looks, look)
	}
	was := slices.Clone(all)
	return all[:len(rows)], func() bool {
		for i, look := range looks {
			if len(all[i]) != len(was[i]) || &all[i][:1][0] != &was[i][:1][0] || !look() {
				return false
			}
		}
		return true
	}
}

// spoil changes all of l, its spare room too.
func spoil(l []api.Item) {
	for i := range l[:cap(l)] {
		l[:cap(l)][i] = api.Item{Series: -7, Kind: i}
	}
}

func spoilRows(rows [][]api.Item) {
	for i, row := range rows[:cap(rows)] {
		spoil(row)
		rows[:cap(rows)][i] = list(sample(77, 7, 7, 7))
	}
}

// fresh asks twice, spoils the first answer, and fails where that can be seen
// in the second, or where what was handed in was changed.
func fresh(t *testing.T, same func() bool, ask func() []api.Item) []api.Item {
	t.Helper()
	got := ask()
	told := slices.Clone(got)
	spoil(got)
	if again := ask(); !slices.Equal(again, told) {
		t.Fatalf("what was told as %v is lent: %v", told, again)
	}
	if !same() {
		t.Fatalf("what was handed in was changed, or lent as %v", told)
	}
	return told
}

func merged(t *testing.T, rows [][]api.Item) []api.Item {
	t.Helper()
	in, same := lent(rows)
	return fresh(t, same, func() []api.Item { return Rows(in) })
}

func cleaned(t *testing.T, l []api.Item) []api.Item {
	t.Helper()
	in, same := spare(l)
	return fresh(t, same, func() []api.Item { return Clean(in) })
}

func without(t *testing.T, l []api.Item, v uint64) []api.Item {
	t.Helper()
	in, same := spare(l)
	return fresh(t, same, func() []api.Item { return Without(in, v) })
}

// started answers an Iter of rows that were spoiled behind New, so that one that
// keeps them tells something else.
func started(t *testing.T, rows [][]api.Item) *Iter {
	t.Helper()
	in, same := lent(rows)
	it := New(in)
	if !same() {
		t.Fatalf("New changed %v", rows)
	}
	spoilRows(in)
	return it
}

// overlaps asks both ways round, which must not matter.
func overlaps(t *testing.T, a, b []api.Item) bool {
	t.Helper()
	left, sameLeft := spare(a)
	right, sameRight := spare(b)
	got := Overlap(left, right)
	if Overlap(right, left) != got {
		t.Errorf("Overlap of %v and %v is not the same turned round", a, b)
	}
	if !sameLeft() || !sameRight() {
		t.Errorf("Overlap changed %v or %v", a, b)
	}
	return got
}

func want(t *testing.T, why string, got, want []api.Item) {
	t.Helper()
	if !slices.Equal(got, want) {
		t.Errorf("%s: %v, not %v", why, got, want)
	}
}

// tells fails where the next items are not these, or the end does not last.
func tells(t *testing.T, why string, it *Iter, l []api.Item) {
	t.Helper()
	for i, x := range l {
		if got, ok := it.Next(); got != x || !ok {
			t.Fatalf("%s: item %d of %d is %v, %v, not %v", why, i, len(l), got, ok, x)
		}
	}
	for range 3 {
		if got, ok := it.Next(); got != (api.Item{}) || ok {
			t.Fatalf("%s: behind the end there is %v, %v", why, got, ok)
		}
	}
}
