package skip

import (
	"math"
	"slices"
	"sync"
	"testing"

	"clepsydra/api"
	"clepsydra/item"
)

// 8.1

func TestOfNone(t *testing.T) {
	l := New()
	holds(t, l)
	for _, x := range append(bad(), sample(0, 0, 1, 0), sample(255, 1<<40, 1<<48, 9), tomb(0, 1), tomb(255, 1<<48)) {
		gets(t, l, x, api.Item{})
		finds(t, l, x, api.Item{})
	}
	holds(t, l)
}

func TestPutAtItsPlace(t *testing.T) {
	a, b := sample(1, 5, 10, 1), sample(2, 5, 10, 1)
	for _, c := range []struct {
		why  string
		x    api.Item
		want []api.Item
	}{
		{"ahead of all", sample(0, 9, 1, 1), list(sample(0, 9, 1, 1), a, b)},
		{"an earlier time", sample(1, 4, 1, 1), list(sample(1, 4, 1, 1), a, b)},
		{"a delete that hides one", tomb(1, 99), list(tomb(1, 99), a, b)},
		{"between", sample(1, 6, 1, 1), list(a, sample(1, 6, 1, 1), b)},
		{"a delete between", tomb(2, 1), list(a, tomb(2, 1), b)},
		{"behind all", sample(2, 6, 1, 1), list(a, b, sample(2, 6, 1, 1))},
		{"a delete behind all", tomb(3, 1), list(a, b, tomb(3, 1))},
		{"the least", tomb(0, 1), list(tomb(0, 1), a, b)},
		{"the greatest", sample(255, 1<<40, 1<<48, math.MaxInt64), list(a, b, sample(255, 1<<40, 1<<48, math.MaxInt64))},
	} {
		l := filled(t, a, b)
		puts(t, l, c.x, 1, true)
		if holds(t, l, c.want); t.Failed() {
			t.Fatal(c.why)
		}
	}
}

// A sample that a delete hides is there none the less: what holds of both is
// not this layer's to say.
func TestHiddenOnesStay(t *testing.T) {
	l := filled(t, tomb(3, 9), sample(3, 1, 4, 1), sample(3, 2, 9, 1))
	holds(t, l, list(tomb(3, 9), sample(3, 1, 4, 1), sample(3, 2, 9, 1)))
	l = filled(t, sample(3, 1, 4, 1), sample(3, 2, 9, 1), tomb(3, 9))
	holds(t, l, list(tomb(3, 9), sample(3, 1, 4, 1), sample(3, 2, 9, 1)))
}

func TestPutUpToItsHeight(t *testing.T) {
	x := sample(1, 5, 5, 1)
	for _, height := range goodHeights() {
		l := New()
		puts(t, l, x, height, true)
		holds(t, l, slices.Repeat([][]api.Item{{x}}, height)...)
	}
}

func TestPutRefuses(t *testing.T) {
	x, y := sample(1, 1, 5, 1), tomb(1, 5)
	for _, full := range []bool{false, true} {
		l := New()
		var want [][]api.Item
		if full {
			puts(t, l, x, 1, true)
			puts(t, l, y, 6, true)
			want = [][]api.Item{{y, x}, {y}, {y}, {y}, {y}, {y}}
		}
		for _, z := range bad() {
			for _, height := range append(goodHeights(), badHeights()...) {
				refuses(t, l, z, height)
			}
		}
		for _, z := range list(x, y, sample(1, 1, 6, 1), tomb(1, 6), sample(9, 9, 9, 9)) {
			for _, height := range badHeights() {
				refuses(t, l, z, height)
			}
		}
		holds(t, l, want...)
	}
}

func TestPutOfTheSame(t *testing.T) {
	for _, c := range []struct {
		why    string
		was, x api.Item
		want   bool
	}{
		{"a greater Version", sample(1, 5, 5, 1), sample(1, 5, 6, 1), true},
		{"a greater Version and a lesser Value", sample(1, 5, 5, 1), sample(1, 5, 6, math.MinInt64), true},
		{"the greatest Version", sample(1, 5, 1<<48-1, 1), sample(1, 5, 1<<48, 1), true},
		{"an equal Version and Value", sample(1, 5, 5, 1), sample(1, 5, 5, 1), false},
		{"an equal Version and a greater Value", sample(1, 5, 5, 1), sample(1, 5, 5, 2), true},
		{"an equal Version and a far greater Value", sample(1, 5, 5, math.MinInt64), sample(1, 5, 5, math.MaxInt64), true},
		{"an equal Version and a lesser Value", sample(1, 5, 5, 1), sample(1, 5, 5, 0), false},
		{"an equal Version and a Value below 0", sample(1, 5, 5, 0), sample(1, 5, 5, -1), false},
		{"a lesser Version", sample(1, 5, 5, 1), sample(1, 5, 4, 1), false},
		{"a lesser Version and a greater Value", sample(1, 5, 5, 1), sample(1, 5, 4, math.MaxInt64), false},
		{"a delete of a greater Version", tomb(1, 5), tomb(1, 6), true},
		{"a delete of an equal Version", tomb(1, 5), tomb(1, 5), false},
		{"a delete of a lesser Version", tomb(1, 5), tomb(1, 4), false},
	} {
		for _, first := range goodHeights() {
			for _, then := range goodHeights() {
				putOfTheSame(t, c.was, c.x, first, then, c.want)
			}
		}
		if t.Failed() {
			t.Fatal(c.why)
		}
	}
}

// putOfTheSame puts was, among others, and then x: of the two heights the first
// is the one that stays.
func putOfTheSame(t *testing.T, was, x api.Item, first, then int, want bool) {
	t.Helper()
	low, high := tomb(0, 9), sample(2, 0, 9, 9)
	l := New()
	puts(t, l, low, 3, true)
	puts(t, l, high, 4, true)
	puts(t, l, was, first, true)
	puts(t, l, x, then, want)
	there := was
	if want {
		there = x
	}
	var rows [][]api.Item
	for h := 1; h <= 6; h++ {
		var row []api.Item
		if h <= 3 {
			row = append(row, low)
		}
		if h <= first {
			row = append(row, there)
		}
		if h <= 4 {
			row = append(row, high)
		}
		rows = append(rows, row)
	}
	holds(t, l, rows...)
	gets(t, l, was, there)
	gets(t, l, x, there)
}

func TestTheChaptersExample(t *testing.T) {
	l := filled(t, sample(1, 5, 5, 1))
	puts(t, l, sample(1, 5, 7, 1), 1, true)
	puts(t, l, sample(1, 5, 6, 1), 1, false)
	holds(t, l, list(sample(1, 5, 7, 1)))
}

func TestLen(t *testing.T) {
	l := New()
	for n, c := range []struct {
		x      api.Item
		height int
		want   int
	}{
		{sample(1, 1, 5, 1), 0, 0},
		{sample(1, 1, 5, 1), 6, 1},
		{sample(1, 1, 4, 1), 1, 1},
		{sample(1, 1, 5, 1), 1, 1},
		{sample(1, 1, 6, 1), 2, 1},
		{api.Item{}, 1, 1},
		{tomb(1, 9), 1, 2},
		{tomb(1, 10), 7, 2},
		{tomb(1, 10), 6, 2},
		{sample(1, 0, 1, 1), 1, 3},
	} {
		l.Put(c.x, c.height)
		if l.Len() != c.want {
			t.Errorf("Len is %d behind Put %d, not %d", l.Len(), n, c.want)
		}
	}
}

func TestGet(t *testing.T) {
	all := list(tomb(1, 5), sample(1, 0, 6, 1), sample(1, 9, 7, 2), sample(3, 4, 1, -3), tomb(255, 1<<48), sample(255, 1<<40, 1, 0))
	l := filled(t, all...)
	for _, x := range all {
		gets(t, l, x, x)
		// Neither Version nor Value counts, also where they could not be.
		for _, v := range []uint64{0, 1, 99, 1 << 48, math.MaxUint64} {
			y := x
			y.Version, y.Value = v, 77
			gets(t, l, y, x)
		}
	}
	for _, x := range list(
		tomb(0, 5), tomb(2, 5), tomb(3, 5), tomb(254, 5), tomb(256, 5),
		sample(0, 0, 6, 1), sample(1, 1, 6, 1), sample(1, 8, 7, 2), sample(1, 10, 7, 2), sample(2, 0, 6, 1), sample(3, 5, 1, -3),
		sample(255, 1<<40-1, 1, 0), sample(255, 1<<40+1, 1, 0), sample(255, 0, 1, 0), sample(257, 0, 6, 1), sample(-255, 0, 6, 1),
		api.Item{}, api.Item{Series: 1}, api.Item{Series: 1, Kind: 3}, api.Item{Series: 1, Kind: 257},
		api.Item{Series: 1, Kind: api.ITomb, Time: 9}, api.Item{Series: 1, Kind: 3, Time: 9},
	) {
		gets(t, l, x, api.Item{})
	}
	holds(t, l, all)
}

func TestFrom(t *testing.T) {
	a, b, c := tomb(1, 5), sample(1, 5, 6, 1), sample(3, 0, 7, 2)
	l := filled(t, b, c, a)
	for _, want := range list(a, b, c) {
		x := want
		for _, v := range []uint64{0, 1, 99, math.MaxUint64} {
			x.Version, x.Value = v, int64(v)
			finds(t, l, x, want)
		}
	}
	for _, o := range []struct {
		why     string
		x, want api.Item
	}{
		{"below all", api.Item{}, a},
		{"below all", tomb(0, 9), a},
		{"below all", sample(0, 1<<40, 9, 9), a},
		{"below all", sample(math.MinInt, 9, 9, 9), a},
		{"below all", api.Item{Series: 1, Kind: math.MinInt, Time: math.MaxUint64}, a},
		{"between the first two", api.Item{Series: 1, Kind: api.ITomb, Time: 1}, b},
		{"between the first two", sample(1, 0, 9, 9), b},
		{"between the first two", sample(1, 4, 9, 9), b},
		{"between the last two", sample(1, 6, 0, 0), c},
		{"between the last two", sample(1, math.MaxUint64, 0, 0), c},
		{"between the last two", api.Item{Series: 1, Kind: 3}, c},
		{"between the last two", tomb(2, 0), c},
		{"between the last two", tomb(3, 0), c},
		{"above all", sample(3, 1, 0, 0), api.Item{}},
		{"above all", api.Item{Series: 3, Kind: 3}, api.Item{}},
		{"above all", tomb(4, 0), api.Item{}},
		{"above all", sample(255, 1<<40, 1, 1), api.Item{}},
		{"above all", api.Item{Series: math.MaxInt, Kind: math.MaxInt, Time: math.MaxUint64}, api.Item{}},
	} {
		if finds(t, l, o.x, o.want); t.Failed() {
			t.Fatal(o.why)
		}
	}
	holds(t, l, list(a, b, c))
}

func TestLevelsThatNoneHas(t *testing.T) {
	a, b, c := sample(1, 1, 1, 1), sample(1, 2, 1, 1), sample(1, 3, 1, 1)
	l := New()
	puts(t, l, b, 4, true)
	puts(t, l, a, 1, true)
	puts(t, l, c, 2, true)
	holds(t, l, list(a, b, c), list(b, c), list(b), list(b))
}

// 8.3, and the document's rule 3

func TestAnswersAreNewMemory(t *testing.T) {
	l := New()
	for n := range uint64(5) {
		puts(t, l, sample(1, n, 1, 1), 2, true)
	}
	want := slices.Clone(l.All())
	for _, ask := range []func() []api.Item{l.All, func() []api.Item { return l.Level(1) }, func() []api.Item { return l.Level(2) }} {
		got, again := ask(), ask()
		for i := range got[:cap(got)] {
			got[:cap(got)][i] = sample(200, 9, 9, 9)
		}
		if !slices.Equal(again, want) {
			t.Error("two answers share memory")
		}
		holds(t, l, want, want)
	}
}

func TestListsStandAlone(t *testing.T) {
	a, b := New(), New()
	puts(t, a, sample(1, 1, 1, 1), 3, true)
	holds(t, b)
	puts(t, b, tomb(1, 1), 1, true)
	holds(t, a, list(sample(1, 1, 1, 1)), list(sample(1, 1, 1, 1)), list(sample(1, 1, 1, 1)))
	holds(t, b, list(tomb(1, 1)))
}

// Ways

// The links of a List bear several who put and look at the same time.
func TestOneListOfManyGoroutines(t *testing.T) {
	const hands, places = 8, 700
	for _, spread := range []int{1, 3, 7, 501} {
		l := New()
		won := make([]int, hands)
		var all sync.WaitGroup
		for i := range hands {
			all.Go(func() {
				for n := range places {
					at := (n*spread + i*31) % places
					ok, e := l.Put(sample(at%2, uint64(at), uint64(1+(i+n)%hands), int64(i)), 1+(at+i)%6)
					if e != api.OK {
						t.Error(e)
					}
					if ok {
						won[i]++
					}
					if _, there := l.Get(sample(at%2, uint64(at), 1, 1)); !there {
						t.Errorf("%d was put, and is not there", at)
					}
					if y, ok := l.From(tomb(1, 1)); ok && item.Less(y, tomb(1, 1)) {
						t.Errorf("%v is below what was asked for", y)
					}
				}
			})
		}
		all.Go(func() {
			for n := range 50 {
				levelsNest(t, l, 1+n%5)
			}
		})
		all.Wait()
		rises(t, "of many", l)
		holdsTheWinners(t, l, hands, places, spread)
		if sum := sumOf(won); l.Len() != places || sum < places {
			t.Errorf("Len is %d of %d, and %d came in", l.Len(), places, sum)
		}
	}
}

// levelsNest fails where a place is at the level above h, and not at h, asked
// in this order: none goes away in between.
func levelsNest(t *testing.T, l *List, h int) {
	above, below := l.Level(h+1), l.Level(h)
	for i, x := range above {
		if i > 0 && !item.Less(above[i-1], x) {
			t.Errorf("%v behind %v", x, above[i-1])
		}
		if _, ok := slices.BinarySearchFunc(below, x, order); !ok {
			t.Errorf("%v is at the level %d, and not below", x, h+1)
		}
	}
}

func order(a, b api.Item) int {
	if item.Less(a, b) {
		return -1
	}
	if item.Less(b, a) {
		return 1
	}
	return 0
}

// holdsTheWinners works out anew what each hand put at each place.
func holdsTheWinners(t *testing.T, l *List, hands, places, spread int) {
	t.Helper()
	var want plain
	for i := range hands {
		for n := range places {
			at := (n*spread + i*31) % places
			want.put(sample(at%2, uint64(at), uint64(1+(i+n)%hands), int64(i)), 1)
		}
	}
	if got := l.All(); !slices.Equal(got, want.items) {
		t.Errorf("%d items, not those that win", len(got))
	}
}

func sumOf(l []int) int {
	sum := 0
	for _, n := range l {
		sum += n
	}
	return sum
}
