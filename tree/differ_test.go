package tree

import (
	"math/rand/v2"
	"slices"
	"testing"

	"clepsydra/api"
)

// 19.1: Differ and Same

func everySeries() []int {
	var l []int
	for series := range 256 {
		l = append(l, series)
	}
	return l
}

func TestDiffer(t *testing.T) {
	l := list(sample(3, 1, 1, 1), tomb(200, 9), sample(3, 2, 5, 5), sample(128, 0, 1, 0))
	wantApart(t, "none, and none", nil, list())
	wantApart(t, "the same", l, l)
	wantApart(t, "none", l, nil, 3, 128, 200)
	wantApart(t, "the first Series", l, append(slices.Clone(l), tomb(0, 1)), 0)
	wantApart(t, "the last Series", append(slices.Clone(l), tomb(255, 1)), l, 255)
	wantApart(t, "one more of one", l, append(slices.Clone(l), sample(3, 3, 1, 1)), 3)
	wantApart(t, "one less", l, l[1:], 3)
	wantApart(t, "a Series less", l, l[:3], 128)
	wantApart(t, "twice", l, append(slices.Clone(l), tomb(200, 9)), 200)
	wantApart(t, "order alone", l, list(l[2], l[1], l[0], l[3]), 3)
	wantApart(t, "the order of Series", l, list(l[3], l[0], l[2], l[1]))
	wantApart(t, "neighbours", list(sample(6, 1, 1, 1)), list(sample(7, 1, 1, 1)), 6, 7)
	wantApart(t, "on both sides", list(sample(127, 1, 1, 1)), list(sample(128, 1, 1, 1)), 127, 128)
	wantApart(t, "many and many", many(9, 2001), many(9, 5000))
	wantApart(t, "many and more", many(9, 2000), many(9, 2001), 9)
	wantApart(t, "not Ok, and many", odd(9), many(9, 2001))
	wantApart(t, "not Ok, and none", odd(9)[:1], nil, 9)
}

// Whatever of an item is another, its Series is told.
func TestDifferByOneItem(t *testing.T) {
	for _, series := range []int{0, 1, 7, 100, 254, 255} {
		l := list(sample(1, 1, 1, 1), sample(series, 5, 5, 5), sample(254, 9, 9, 9))
		for _, x := range list(
			tomb(series, 5), sample(series, 4, 5, 5), sample(series, 6, 5, 5), sample(series, 5, 4, 5), sample(series, 5, 6, 5),
			sample(series, 5, 5, 4), sample(series, 5, 5, -5), sample(series, 1<<40, 5, 5), sample(series, 5, 1<<48, 5),
			sample(series, 0, 5, 5), api.Item{Series: series, Kind: 2, Time: 5, Value: 5},
		) {
			wantApart(t, "one item", l, list(l[0], x, l[2]), series)
		}
	}
}

func TestDifferInEachSeries(t *testing.T) {
	var l []api.Item
	for series := range 256 {
		wantApart(t, "one of one Series", nil, list(tomb(series, 1)), series)
		l = append(l, sample(series, 1, 1, 1))
	}
	wantApart(t, "each Series", l, nil, everySeries()...)
	for series := range 256 {
		own := slices.Clone(l)
		own[series].Value++
		wantApart(t, "one of all", l, own, series)
	}
}

func TestDifferInSomeSeries(t *testing.T) {
	r := rand.New(rand.NewPCG(19, 1))
	for range 200 {
		var told []int
		var a, b []api.Item
		some := 1 + r.IntN(12)
		for series := range 256 {
			x := sample(series, 1, 1, 1)
			a = append(a, x)
			if r.IntN(some) == 0 {
				told = append(told, series)
				x.Version++
			}
			b = append(b, x)
		}
		r.Shuffle(len(b), func(i, j int) { b[i], b[j] = b[j], b[i] })
		wantApart(t, "some Series", a, b, told...)
	}
}

func TestDifferOfNil(t *testing.T) {
	x := of(t, list(sample(3, 1, 1, 1)))
	for _, c := range [][2]*Tree{{nil, x}, {x, nil}, {nil, nil}, {nil, of(t, nil)}, {of(t, nil), nil}} {
		for range 2 { // again, behind an answer that was spoiled
			if got := differing(c[0], c[1]); !slices.Equal(got, everySeries()) {
				t.Errorf("Differ = %v", got)
			}
		}
	}
	if Same(nil, x) || Same(x, nil) || Same(of(t, nil), nil) {
		t.Error("the Root of none is that of some")
	}
	if !Same(nil, nil) {
		t.Error("both have the Root of none")
	}
}

func TestDifferOfOneTree(t *testing.T) {
	x := of(t, list(sample(3, 1, 1, 1), api.Item{Series: 4}))
	if differing(x, x) != nil || !Same(x, x) {
		t.Error("a tree differs from itself")
	}
}

// alike gives the sums of b at a place the value that a has there.
func alike(a, b *Tree, level, i int) {
	at := 256>>level + i
	b.made()[at] = a.made()[at]
}

// Where a sum above two leaves is the same, though they are not, as Mix may have
// it of other sums, no Series below is told.
func TestDifferBySumsAbove(t *testing.T) {
	l := list(sample(3, 1, 1, 1), sample(2, 1, 1, 1), sample(100, 1, 1, 1), sample(255, 1, 1, 1))
	for _, c := range []struct {
		level, i int
		told     []int
	}{
		{0, 3, []int{2, 100, 255}},
		{0, 4, []int{2, 3, 100, 255}},
		{1, 1, []int{100, 255}},
		{1, 0, []int{2, 3, 100, 255}},
		{4, 6, []int{2, 3, 255}},
		{6, 3, []int{2, 3, 100}},
		{7, 0, []int{255}},
		{7, 1, []int{2, 3, 100}},
		{8, 0, nil},
	} {
		x, y := of(t, l), of(t, nil)
		alike(x, y, c.level, c.i)
		for range 2 {
			if got := differing(x, y); !slices.Equal(got, c.told) {
				t.Errorf("the same at (%d, %d): Differ = %v, want %v", c.level, c.i, got, c.told)
			}
			if got := Same(x, y); got != (c.level == 8) {
				t.Errorf("the same at (%d, %d): Same = %v", c.level, c.i, got)
			}
			x, y = y, x
		}
	}
}

// Same is told of the Roots alone, and where nothing below differs nothing is told.
func TestSameByTheRoots(t *testing.T) {
	x, y := of(t, list(sample(3, 1, 1, 1))), of(t, list(sample(3, 1, 1, 1)))
	y.made()[1]++
	if Same(x, y) {
		t.Error("the Roots differ")
	}
	if got := differing(x, y); got != nil {
		t.Errorf("no leaf differs: Differ = %v", got)
	}
}
