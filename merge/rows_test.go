package merge

import (
	"math"
	"slices"
	"testing"

	"clepsydra/api"
)

// 13.1

func TestRowsOfNone(t *testing.T) {
	want(t, "nil", merged(t, nil), nil)
	want(t, "no rows", merged(t, rowsOf()), nil)
	for n := range 20 {
		want(t, "empty rows", merged(t, make([][]api.Item, n)), nil)
		want(t, "empty and nil rows", merged(t, append(make([][]api.Item, n), list(), nil)), nil)
	}
	if got := Rows(rowsOf(nil, list(), make([]api.Item, 0, 5))); len(got) != 0 {
		t.Error(got)
	}
}

func TestRowsOfOne(t *testing.T) {
	l := list(sample(0, 0, 1, 0), tomb(1, 5), sample(1, 3, 4, 9), sample(1, 1<<40, 1<<48, math.MinInt64), tomb(255, 1<<48))
	for n := range len(l) + 1 {
		want(t, "one row", merged(t, rowsOf(l[:n])), l[:n])
	}
}

func TestTheExample(t *testing.T) {
	want(t, "1 3, 2 3", merged(t, rowsOf(times(1, 3), times(2, 3))), times(1, 2, 3))
	want(t, "2 3, 1 3", merged(t, rowsOf(times(2, 3), times(1, 3))), times(1, 2, 3))
}

func TestRowsOfTwo(t *testing.T) {
	for _, c := range []struct{ a, b, want []uint64 }{
		{[]uint64{1}, []uint64{2}, []uint64{1, 2}},
		{[]uint64{1, 2}, []uint64{3, 4}, []uint64{1, 2, 3, 4}},
		{[]uint64{1, 4}, []uint64{2, 3}, []uint64{1, 2, 3, 4}},
		{[]uint64{1, 3, 5}, []uint64{2, 4, 6}, []uint64{1, 2, 3, 4, 5, 6}},
		{[]uint64{1, 2, 3}, []uint64{1, 2, 3}, []uint64{1, 2, 3}},
		{[]uint64{1, 2, 3}, []uint64{2}, []uint64{1, 2, 3}},
		{[]uint64{1, 2, 3}, []uint64{0, 3, 9}, []uint64{0, 1, 2, 3, 9}},
		{[]uint64{1, 2, 3}, nil, []uint64{1, 2, 3}},
		{[]uint64{0, 1 << 40}, []uint64{1 << 32, 1<<40 - 1}, []uint64{0, 1 << 32, 1<<40 - 1, 1 << 40}},
	} {
		want(t, "two rows", merged(t, rowsOf(times(c.a...), times(c.b...))), times(c.want...))
		want(t, "turned round", merged(t, rowsOf(times(c.b...), times(c.a...))), times(c.want...))
	}
}

// Each place is one of Series, Kind and Time: a place that is near is another.
func TestNeighboursStayApart(t *testing.T) {
	all := list(sample(0, 1, 5, 0), tomb(1, 5), sample(1, 0, 5, 0), sample(1, 1, 5, 0), sample(1, 256, 5, 0), tomb(2, 5), sample(2, 0, 5, 0), sample(255, 0, 5, 0))
	for n := range 1 << len(all) {
		var rows [2][]api.Item
		for i, x := range all {
			which := n >> i & 1
			rows[which] = append(rows[which], x)
		}
		want(t, "neighbours", merged(t, rows[:]), all)
	}
}

func TestRowsWithEmptyOnesAmongThem(t *testing.T) {
	full := rowsOf(times(1, 4), times(2, 4), times(3))
	for n := range 1 << 4 {
		var rows [][]api.Item
		for i := range 4 {
			if n>>i&1 == 1 {
				rows = append(rows, nil, list())
			}
			if i < len(full) {
				rows = append(rows, full[i])
			}
		}
		want(t, "empty ones", merged(t, rows), times(1, 2, 3, 4))
	}
}

func TestRowsOfTheSame(t *testing.T) {
	for _, c := range []struct {
		why      string
		less, up api.Item
	}{
		{"a greater Version", sample(1, 5, 5, 1), sample(1, 5, 6, 1)},
		{"a greater Version and a lesser Value", sample(1, 5, 5, 1), sample(1, 5, 6, -9)},
		{"the greatest Version", sample(1, 5, 1<<48-1, 1), sample(1, 5, 1<<48, 1)},
		{"the first Version", sample(1, 5, 1, 1), sample(1, 5, 2, 1)},
		{"a greater Value", sample(1, 5, 5, 1), sample(1, 5, 5, 2)},
		{"a greater Value below 0", sample(1, 5, 5, -2), sample(1, 5, 5, -1)},
		{"Values at their ends", sample(1, 5, 5, math.MinInt64), sample(1, 5, 5, math.MaxInt64)},
		{"a delete of a greater Version", tomb(1, 5), tomb(1, 6)},
		{"a tie", sample(1, 5, 5, 1), sample(1, 5, 5, 1)},
		{"a tie of deletes", tomb(1, 5), tomb(1, 5)},
	} {
		ahead, behind := sample(0, 9, 9, 9), sample(2, 0, 9, 9)
		for size := 2; size <= 5; size++ {
			for at := range size {
				rows := make([][]api.Item, size)
				for i := range rows {
					rows[i] = list(ahead, c.less, behind)
				}
				rows[at] = list(c.up)
				want(t, c.why, merged(t, rows), list(ahead, c.up, behind))
			}
		}
	}
}

// The one that wins may stand in any row, whatever the order of the others.
func TestRowsOfTheSameInAnyOrder(t *testing.T) {
	few := list(sample(1, 5, 3, 7), sample(1, 5, 4, -1), sample(1, 5, 4, 0), sample(1, 5, 9, -5), sample(1, 5, 2, 99), sample(1, 5, 9, -5))
	orders(len(few), func(order []int) {
		var rows [][]api.Item
		for _, i := range order {
			rows = append(rows, list(few[i]))
		}
		want(t, "the same", merged(t, rows), list(sample(1, 5, 9, -5)))
	})
}

// orders calls f with the numbers below n in each of their orders.
func orders(n int, f func(order []int)) {
	var lay func(order []int)
	lay = func(order []int) {
		if len(order) == n {
			f(order)
			return
		}
		for i := range n {
			if !slices.Contains(order, i) {
				lay(append(slices.Clip(order), i))
			}
		}
	}
	lay(nil)
}

func TestWinnerOfATieIsOfTheEarlierRow(t *testing.T) {
	x := sample(1, 5, 5, 1)
	for _, y := range list(sample(1, 5, 4, 9), sample(1, 5, 5, 0), x) {
		if winner(x, y) != x || winner(y, x) != x {
			t.Errorf("%v does not hold beside %v", x, y)
		}
	}
	// Items that tie are alike in all, but where they are at two places: these
	// tell which of the two is taken.
	if winner(sample(1, 5, 5, 1), sample(1, 6, 5, 1)) != sample(1, 5, 5, 1) {
		t.Error("the later row's")
	}
}

// What a delete hides stays: Rows tells all items, Clean what holds.
func TestHiddenOnesStay(t *testing.T) {
	a := list(tomb(3, 9), sample(3, 2, 9, 1))
	b := list(tomb(3, 4), sample(3, 1, 4, 1), sample(3, 3, 10, 1))
	all := list(tomb(3, 9), sample(3, 1, 4, 1), sample(3, 2, 9, 1), sample(3, 3, 10, 1))
	want(t, "hidden ones", merged(t, rowsOf(a, b)), all)
	want(t, "turned round", merged(t, rowsOf(b, a)), all)
}

// It is not asked whether an item may be.
func TestRowsOfItemsThatMayNotBe(t *testing.T) {
	if !rises(odd()) {
		t.Fatal("they do not rise")
	}
	for n := range len(odd()) + 1 {
		want(t, "cut", merged(t, rowsOf(odd()[n:], odd()[:n])), odd())
	}
	up := odd()
	for i := range up {
		up[i].Value++
	}
	want(t, "the greater Values", merged(t, rowsOf(odd(), up, odd())), up)
}

func TestManyRows(t *testing.T) {
	for _, size := range []int{1, 2, 3, 4, 5, 7, 8, 9, 30, 31, 32, 33, 100, 1000, 5000} {
		rows := make([][]api.Item, size)
		var all []api.Item
		for i := range 3 * size {
			x := sample(i/1000, uint64(i), 1, int64(i))
			// All rows have some, in an order that is not theirs.
			at := i * 7919 % size
			rows[at] = append(rows[at], x)
			all = append(all, x)
		}
		if got := merged(t, rows); !slices.Equal(got, all) {
			t.Errorf("%d rows make %d items of %d", size, len(got), len(all))
		}
	}
}

func TestManyRowsOfTheSame(t *testing.T) {
	const size = 3000
	for _, top := range []int{0, 1, size / 2, size - 2, size - 1} {
		rows := make([][]api.Item, size)
		for i := range rows {
			rows[i] = list(tomb(1, 5), sample(1, 1, 5, int64(-i)))
		}
		rows[top] = list(tomb(1, 6), sample(1, 1, 5, 1))
		want(t, "one winner", merged(t, rows), list(tomb(1, 6), sample(1, 1, 5, 1)))
	}
}

func TestLongRows(t *testing.T) {
	const size = 100_000
	var rows [3][]api.Item
	var all []api.Item
	for i := range size {
		x := sample(1, uint64(i), uint64(1+i%5), 0)
		rows[i%3] = append(rows[i%3], x)
		if i%7 == 0 {
			y := x
			y.Version++
			rows[(i+1)%3] = append(rows[(i+1)%3], y)
			x = y
		}
		all = append(all, x)
	}
	if got := merged(t, rows[:]); !slices.Equal(got, all) {
		t.Errorf("%d items of %d", len(got), len(all))
	}
}

// Rows that share memory, also the same row twice, are rows like others.
func TestRowsThatShareMemory(t *testing.T) {
	l := times(1, 2, 3, 4, 5)
	want(t, "one row thrice", Rows(rowsOf(l, l, l)), l)
	want(t, "parts of one", Rows(rowsOf(l[:3], l[2:], l[1:2])), l)
	want(t, "not changed", l, times(1, 2, 3, 4, 5))
}

func TestOverlap(t *testing.T) {
	few := list(tomb(1, 5), sample(1, 0, 5, 0), sample(1, 9, 5, 0), tomb(2, 5), sample(2, 0, 5, 0), sample(2, 9, 5, 0))
	for _, c := range []struct {
		why  string
		a, b []api.Item
		want bool
	}{
		{"both empty", nil, nil, false},
		{"both empty, not nil", list(), list(), false},
		{"one empty", nil, few, false},
		{"one empty, not nil", list(), few[:1], false},
		{"the same", few, few, true},
		{"one item each, the same", few[2:3], few[2:3], true},
		{"one item each, another place", few[2:3], few[3:4], false},
		{"touch in one item", few[:3], few[2:], true},
		{"touch in one item, of another version", few[:3], list(sample(1, 9, 1, 7), tomb(2, 1)), true},
		{"side by side", few[:3], few[3:], false},
		{"far apart", few[:1], few[5:], false},
		{"one within the other", few, few[2:4], true},
		{"one item within the other", few, few[3:4], true},
		{"at the beginning of the other", few, few[:1], true},
		{"at the end of the other", few, few[5:], true},
		{"one amid the other, with no place of both", list(few[0], few[5]), few[1:5], true},
		{"a place between two of the other", list(few[0], few[5]), few[2:3], true},
		{"laid across", few[:4], few[2:], true},
		{"by turns", list(few[0], few[2], few[4]), list(few[1], few[3], few[5]), true},
		{"another series", list(sample(1, 5, 1, 1)), list(sample(2, 5, 1, 1)), false},
		{"another time", list(sample(1, 5, 1, 1)), list(sample(1, 6, 1, 1)), false},
		{"another kind", list(tomb(1, 1)), list(sample(1, 0, 1, 0)), false},
	} {
		if got := overlaps(t, c.a, c.b); got != c.want {
			t.Errorf("%s: Overlap is %v", c.why, got)
		}
	}
}

// All pairs of parts of one row: they overlap where they have a place in common.
func TestOverlapOfParts(t *testing.T) {
	l := times(0, 1, 2, 3, 1<<40)
	for i := range len(l) + 1 {
		for j := i; j <= len(l); j++ {
			for m := range len(l) + 1 {
				for n := m; n <= len(l); n++ {
					both := max(i, m) < min(j, n)
					if got := overlaps(t, l[i:j], l[m:n]); got != both {
						t.Errorf("Overlap of %d to %d and %d to %d is %v", i, j, m, n, got)
					}
				}
			}
		}
	}
}
