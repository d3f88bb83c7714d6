package tree

import (
	"math"
	"slices"
	"testing"

	"clepsydra/api"
)

// 19.1: Of, Leaf, Node and Root

// The numbers were worked out by hand, so that a fault that the layers below and
// the second hand share would show.
func TestTreeOfNone(t *testing.T) {
	told := []uint64{
		0xaf63bd4c8601b7df, 0x338d095b0bedb34d, 0x4d52873a13a03495, 0xa51bf638bcdbb481, 0x052c78bc4e6408b5,
		0x0d7c29930e6ad47d, 0x604853537ae75eb5, 0x9502baf98248e115, 0x47cdd0feef26077d,
	}
	for _, l := range [][]api.Item{nil, {}} {
		x := of(t, l)
		for level, n := range told {
			for i := range 256 >> level {
				if got := x.Node(level, i); got != n {
					t.Fatalf("Node(%d, %d) = %x, want %x", level, i, got, n)
				}
			}
		}
		if x.Root() != told[8] || x.Leaf(0) != told[0] || x.Leaf(255) != told[0] {
			t.Error("the Root, or a leaf")
		}
	}
}

func TestTreeOfOne(t *testing.T) {
	x := of(t, list(sample(3, 60, 4, -7)))
	for level, n := range []uint64{
		0x6ed4c156d6b11a58, 0x8f21da88c7f65033, 0xe5d00d1dd173d5e7, 0x823d5015c53557f0, 0x7ca67cccf7a8098e,
		0x8302ee077af25c2f, 0x108d47d4ed53d778, 0xd765be70072bfb6a, 0xfeafe4ca834872b6,
	} {
		if got := x.Node(level, 3>>level); got != n {
			t.Errorf("Node(%d, %d) = %x, want %x", level, 3>>level, got, n)
		}
	}
}

func TestTreeAtItsEnds(t *testing.T) {
	x := of(t, list(sample(255, 1<<40, 1<<48, math.MinInt64), tomb(0, 1), tomb(255, 1<<48)))
	for i, n := range []struct{ got, want uint64 }{
		{x.Leaf(0), 0x9b45decf91de846c}, {x.Leaf(255), 0xf2d2cc60a4fef8ac}, {x.Root(), 0xf397978eadc10cae},
		{x.Node(7, 0), 0x2c31263498bdbc0f}, {x.Node(7, 1), 0x3df0c063f7eeafd2},
	} {
		if n.got != n.want {
			t.Errorf("%d: %x, want %x", i, n.got, n.want)
		}
	}
}

func TestTrees(t *testing.T) {
	var each []api.Item
	for series := range 256 {
		each = append(each, sample(255-series, uint64(series), 7, int64(-series)))
	}
	for _, l := range [][]api.Item{
		list(tomb(200, 9)),
		list(sample(3, 1, 1, 1), tomb(200, 9), sample(3, 2, 5, 5), tomb(3, 9), sample(200, 0, 9, 0)),
		list(sample(3, 1, 1, 1), sample(3, 1, 1, 1), sample(3, 1, 1, 1)),
		list(sample(9, 2, 1, 1), sample(9, 1, 1, 1), tomb(9, 3), tomb(9, 2)),
		each,
		append(slices.Clone(each), each...),
	} {
		want(t, of(t, l), l)
	}
}

// A leaf is of all items of its Series, in their order, wherever the items of
// others stand between, and of those that come more than once or are hidden.
func TestLeavesByTheListsOrder(t *testing.T) {
	own := list(sample(5, 9, 3, 1), tomb(5, 4), sample(5, 2, 3, 1), sample(5, 9, 3, 1), tomb(5, 2))
	told := of(t, own).Leaf(5)
	if told != leafOf(own, 5) {
		t.Error("not in order")
	}
	l := slices.Clone(own)
	for i := range own {
		l = slices.Insert(l, 2*i, tomb(4, 1))
	}
	l = append(l, sample(6, 9, 3, 1))
	if got := of(t, l).Leaf(5); got != told {
		t.Error("others stand between")
	}
	slices.Reverse(own)
	if got := of(t, own).Leaf(5); got == told || got != leafOf(own, 5) {
		t.Error("another order, the same leaf")
	}
}

func TestLeafOfItemsThatAreNotOk(t *testing.T) {
	beside := list(sample(6, 1, 1, 1), tomb(8, 2))
	for _, x := range odd(7) {
		for _, own := range [][]api.Item{list(x), list(x, sample(7, 1, 1, 1)), list(sample(7, 1, 1, 1), x), list(tomb(7, 1), x, tomb(7, 1))} {
			l := append(slices.Clone(own), beside...)
			y := of(t, l)
			if got := y.Leaf(7); got != 0 {
				t.Errorf("%v: leaf %x", own, got)
			}
			want(t, y, l)
		}
	}
	all := slices.Concat(odd(0), odd(255), beside)
	want(t, of(t, all), all)
}

// What has no leaf spoils none.
func TestSeriesOutside(t *testing.T) {
	l := list(sample(0, 1, 1, 1), sample(255, 1, 1, 1), tomb(3, 2))
	told := of(t, l)
	for _, series := range outside() {
		more := append(slices.Clone(l), sample(series, 1, 1, 1), tomb(series, 2), api.Item{Series: series})
		slices.Reverse(more)
		x := of(t, more)
		if !Same(x, told) || differing(x, told) != nil {
			t.Errorf("an item of Series %d counts", series)
		}
		want(t, x, l)
		if got := x.Leaf(series); got != 0 {
			t.Errorf("Leaf(%d) = %x", series, got)
		}
	}
}

func TestLeafOfManyItems(t *testing.T) {
	for _, n := range []int{1, 127, 128, 1999, 2000, 2001, 2002, 4000, 4001, 10000} {
		l := append(many(7, n), sample(8, 1, 1, 1))
		x := of(t, l)
		if got := x.Leaf(7); (got == 0) != (n > 2000) {
			t.Errorf("%d items: leaf %x", n, got)
		}
		want(t, x, l)
		l = append(l[1:], l[0]) // an item that may be told apart, behind all others
		want(t, of(t, l), l)
	}
}

// So many may be of each Series, not of all of them.
func TestManyItemsOfManySeries(t *testing.T) {
	var l []api.Item
	for i := range 2000 {
		for _, series := range []int{0, 7, 8, 255} {
			l = append(l, sample(series, uint64(i), 1, int64(series)))
		}
	}
	x := of(t, l)
	want(t, x, l)
	l = append(l, sample(7, 5000, 1, 1))
	y := of(t, l)
	want(t, y, l)
	if got := differing(x, y); !slices.Equal(got, []int{7}) {
		t.Errorf("Differ = %v", got)
	}
	l = append(l, api.Item{Series: 7}) // too many, and one that is not Ok
	want(t, of(t, l), l)
}

func TestOneThatIsNotOkBehindMany(t *testing.T) {
	for _, n := range []int{1998, 1999, 2000, 2001, 2002} {
		l := append(many(7, n), api.Item{Series: 7})
		want(t, of(t, l), l)
		l = slices.Insert(many(7, n), 0, tomb(7, 0))
		want(t, of(t, l), l)
	}
}

func TestPlacesOutside(t *testing.T) {
	x := of(t, list(sample(0, 1, 1, 1), sample(255, 1, 1, 1)))
	ends := append(outside(), 0, 1, 3, 8, 9, 128, 255)
	for _, level := range append(outside(), 0, 1, 2, 3, 4, 5, 6, 7, 8, 9, 10, 63, 64, 65) {
		for _, i := range append(ends, 256>>max(min(level, 9), 0), 256>>max(min(level, 9), 0)-1) {
			there := level >= 0 && level <= 8 && i >= 0 && i < 256>>level
			if got := x.Node(level, i); (got != 0) != there {
				t.Errorf("Node(%d, %d) = %x", level, i, got)
			}
		}
	}
	for _, series := range outside() {
		if got := x.Leaf(series); got != 0 {
			t.Errorf("Leaf(%d) = %x", series, got)
		}
	}
}

// 19.1: none of a nil tree

func TestNilTree(t *testing.T) {
	var none *Tree
	for level := -1; level < 10; level++ {
		for _, i := range []int{-1, 0, 1, 255} {
			if got := none.Node(level, i); got != 0 {
				t.Errorf("Node(%d, %d) = %x", level, i, got)
			}
		}
	}
	if none.Root() != 0 || none.Leaf(0) != 0 || none.Leaf(-1) != 0 {
		t.Error("a sum of none")
	}
}

// A tree that Of did not give is one of no items.
func TestNewTree(t *testing.T) {
	want(t, new(Tree), nil)
	if Differ(new(Tree), Of(nil)) != nil || !Same(Of(nil), new(Tree)) {
		t.Error("not like that of none")
	}
}
