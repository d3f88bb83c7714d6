package mem

import (
	"math"
	"testing"

	"clepsydra/api"
	"clepsydra/item"
	"clepsydra/sum"
)

// 9.1

// The lowest bits that are 0 were counted by another program.
func TestHeight(t *testing.T) {
	for _, c := range []struct {
		zeros int
		x     api.Item
		want  int
	}{
		{0, tomb(1, 1), 1},
		{0, sample(0, 0, 1, 0), 1},
		{0, sample(255, 1<<40-99, 1, 0), 1},
		{1, tomb(0, 1), 1},
		{1, sample(0, 3, 1, 0), 1},
		{2, tomb(2, 1), 2},
		{2, sample(0, 1, 1, 0), 2},
		{3, tomb(6, 1), 2},
		{3, sample(0, 5, 1, 0), 2},
		{3, sample(255, 1<<40-96, 1, 0), 2},
		{4, tomb(14, 1), 3},
		{4, sample(0, 13, 1, 0), 3},
		{5, tomb(62, 1), 3},
		{5, sample(0, 29, 1, 0), 3},
		{6, tomb(30, 1), 4},
		{6, sample(0, 1<<32+44, 1, 0), 4},
		{7, tomb(222, 1), 4},
		{7, sample(0, 1<<32-50, 1, 0), 4},
		{8, sample(0, 125, 1, 0), 5},
		{9, tomb(94, 1), 5},
		{9, sample(2, 39, 1, 0), 5},
		{10, sample(11, 40, 1, 0), 6},
		{10, sample(0, 1<<40-39, 1, 0), 6},
		{11, sample(9, 134, 1, 0), 6},
		{12, sample(6, 296, 1, 0), 6},
		{13, sample(13, 58, 1, 0), 6},
		{14, sample(46, 19, 1, 0), 6},
		{18, sample(144, 45, 1, 0), 6},
	} {
		if got := Height(c.x); got != c.want {
			t.Errorf("Height(%v) is %d, not %d, of %d bits", c.x, got, c.want, c.zeros)
		}
	}
}

// pairs counts as the words of 9.1 do: two by two, from the lowest on.
func pairs(x api.Item) int {
	h, n := sum.Hash(item.Key(x)), 1
	for n < 6 && h&3 == 0 {
		h >>= 2
		n++
	}
	return n
}

func TestHeightOfAllKinds(t *testing.T) {
	var met [7]int
	for series := range 256 {
		row := list(tomb(series, 1))
		for time := range uint64(200) {
			row = append(row, sample(series, time, 1, 0), sample(series, 1<<40-time, 1, 0), sample(series, time<<20, 1, 0))
		}
		for _, x := range row {
			got := Height(x)
			if got != pairs(x) {
				t.Fatalf("Height(%v) is %d, not %d", x, got, pairs(x))
			}
			met[got]++
		}
	}
	for h := 1; h <= 6; h++ {
		if met[h] == 0 {
			t.Errorf("no item of the height %d", h)
		}
	}
}

func TestHeightHangsOnThePlaceAlone(t *testing.T) {
	for _, x := range list(sample(0, 0, 1, 0), sample(0, 1, 1, 0), sample(11, 40, 1, 0), sample(255, 1<<40, 1, 0)) {
		want := Height(x)
		for _, v := range []uint64{0, 1, 2, 3, 256, 1 << 47, 1 << 48, 1<<48 + 1, math.MaxUint64} {
			for _, value := range []int64{math.MinInt64, -1, 0, 1, 77, math.MaxInt64} {
				x.Version, x.Value = v, value
				if got := Height(x); got != want {
					t.Errorf("Height(%v) is %d, not %d", x, got, want)
				}
			}
		}
	}
}

// Also of what may not be, the height is one that a list takes.
func TestHeightOfBadItems(t *testing.T) {
	for _, x := range append(bad(),
		api.Item{Series: math.MinInt, Kind: math.MinInt, Time: math.MaxUint64},
		api.Item{Series: math.MaxInt, Kind: math.MaxInt, Time: 1 << 63, Value: math.MinInt64},
	) {
		if got := Height(x); got != pairs(x) || got < 1 || got > 6 {
			t.Errorf("Height(%v) is %d, not %d", x, got, pairs(x))
		}
	}
}

// What is applied stands as high in the list as Height says.
func TestItemsStandAtTheirHeight(t *testing.T) {
	m := New()
	for time := range uint64(300) {
		applies(t, m, sample(11, time, 2, 0), sample(0, time, 2, 0), tomb(int(time%256), 3))
		applies(t, m, sample(11, time, 3, 0), sample(0, time, 1, 0))
	}
	for h := 1; h <= 6; h++ {
		var want []api.Item
		for _, x := range m.Items() {
			if pairs(x) >= h {
				want = append(want, x)
			}
		}
		if got := m.items.Level(h); len(want) == 0 || len(got) != len(want) {
			t.Errorf("%d items at the level %d, not %d", len(got), h, len(want))
		}
	}
}
