package tree

import (
	"math/rand/v2"
	"slices"
	"sync"
	"testing"

	"clepsydra/api"
)

// 19.2

func TestListsThatAreTheSame(t *testing.T) {
	r := rand.New(rand.NewPCG(19, 2))
	for range 100 {
		l := anyList(r)
		x, y := of(t, l), of(t, slices.Clone(l))
		wantApart(t, "the same", l, slices.Clone(l))
		for level := range 9 {
			for i := range 256 >> level {
				if x.Node(level, i) != y.Node(level, i) {
					t.Fatalf("Node(%d, %d) of the same list is another", level, i)
				}
			}
		}
	}
}

// No sum hangs on which was asked first, nor on how often.
func TestSumsInAnyOrder(t *testing.T) {
	l := list(sample(3, 1, 1, 1), tomb(200, 9), sample(3, 2, 5, 5), api.Item{Series: 8})
	other := of(t, nil)
	for i, first := range []func(x *Tree){
		func(x *Tree) { x.Root() },
		func(x *Tree) { x.Leaf(3) },
		func(x *Tree) { x.Leaf(-1) },
		func(x *Tree) { x.Node(9, 0) },
		func(x *Tree) { x.Node(4, 2) },
		func(x *Tree) { Differ(x, nil) },
		func(x *Tree) { Differ(x, other) },
		func(x *Tree) { Differ(other, x) },
		func(x *Tree) { Same(x, x) },
	} {
		x := of(t, l)
		first(x)
		for range 2 {
			want(t, x, l)
		}
		if t.Failed() {
			t.Fatal("behind call", i)
		}
	}
}

// Ways: sums are made once, when they are first asked.
func TestSumsAreMadeOnce(t *testing.T) {
	l := list(sample(3, 1, 1, 1), tomb(200, 9))
	x := of(t, l)
	x.Leaf(-1)
	x.Node(9, 0)
	Differ(x, nil)
	if x.sums != (sums{}) {
		t.Error("made ahead of the first that is asked")
	}
	want(t, x, l)
	for series := range x.rows {
		if x.rows[series] != nil {
			t.Errorf("the items of Series %d are kept behind it", series)
		}
	}
	x.rows[4] = list(sample(4, 1, 1, 1))
	want(t, x, l)
}

// Of more than may be no more are kept than it takes to know it.
func TestItemsThatAreKept(t *testing.T) {
	l := slices.Concat(many(7, 30000), many(8, 2000), many(-1, 100), many(256, 100))
	x := of(t, l)
	for series, row := range x.rows {
		switch {
		case series == 7 && len(row) != 2001, series == 8 && len(row) != 2000, series != 7 && series != 8 && row != nil:
			t.Errorf("Series %d: %d items", series, len(row))
		}
	}
	want(t, x, l)
}

func TestSumsAskedBySeveral(t *testing.T) {
	l := many(7, 500)
	told := secondOf(l)
	x, y := of(t, l), of(t, nil)
	var all sync.WaitGroup
	for i := range 16 {
		all.Go(func() {
			if x.Node(i%9, 0) != told[i%9][0] || x.Leaf(7) != told[0][7] || Same(x, y) || !slices.Equal(Differ(x, y), []int{7}) {
				t.Error("another tree")
			}
		})
	}
	all.Wait()
}
