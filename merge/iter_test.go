package merge

import (
	"slices"
	"sync"
	"testing"

	"clepsydra/api"
)

// 13.1

// some answers rows with places of both, hidden ones, and an empty one.
func some() [][]api.Item {
	return rowsOf(
		list(sample(0, 5, 1, 1), tomb(1, 6), sample(1, 3, 7, 2), sample(1, 9, 8, 4)),
		nil,
		list(tomb(1, 4), sample(1, 3, 7, 3), sample(1, 1<<40, 2, 2), sample(255, 1, 3, 3)),
		list(sample(1, 3, 5, 9)),
	)
}

func ofSome() []api.Item {
	return list(sample(0, 5, 1, 1), tomb(1, 6), sample(1, 3, 7, 3), sample(1, 9, 8, 4), sample(1, 1<<40, 2, 2), sample(255, 1, 3, 3))
}

// targets answers places at, beside, ahead of and behind those of some.
func targets() []api.Item {
	l := far()
	for _, x := range ofSome() {
		l = append(l, around(x)...)
	}
	return l
}

func TestNextOfNone(t *testing.T) {
	for _, rows := range [][][]api.Item{nil, {}, {nil}, {list()}, {nil, list(), nil}, make([][]api.Item, 50)} {
		it := started(t, rows)
		tells(t, "none", it, nil)
		for _, x := range far() {
			it.Seek(x)
			tells(t, "none, behind Seek", it, nil)
		}
	}
}

func TestNextToTheEnd(t *testing.T) {
	tells(t, "rows", started(t, some()), ofSome())
	tells(t, "the example", started(t, rowsOf(times(1, 3), times(2, 3))), times(1, 2, 3))
	tells(t, "one row", started(t, rowsOf(times(1, 3))), times(1, 3))
	tells(t, "one item", started(t, rowsOf(nil, list(tomb(1, 1)), nil)), list(tomb(1, 1)))
	tells(t, "the zero item", started(t, rowsOf(list(api.Item{}, tomb(1, 1)))), list(api.Item{}, tomb(1, 1)))
	tells(t, "what may not be", started(t, rowsOf(odd(), odd()[3:])), odd())
}

func TestNextOfManyRows(t *testing.T) {
	rows := make([][]api.Item, 2000)
	var all []uint64
	for i := range rows {
		rows[i] = times(uint64(len(rows) - i))
		all = append(all, uint64(i+1))
	}
	tells(t, "many rows", started(t, rows), times(all...))
}

// From wherever it stands, to wherever: behind n items, or behind the end.
func TestSeekFromEachPlace(t *testing.T) {
	l := ofSome()
	for n := range len(l) + 3 {
		for _, x := range targets() {
			it := started(t, some())
			for range n {
				it.Next()
			}
			it.Seek(x)
			tells(t, "behind Seek", it, l[placeIn(l, x):])
			it.Seek(x)
			tells(t, "behind the end, and Seek", it, l[placeIn(l, x):])
		}
	}
}

func TestSeekTwice(t *testing.T) {
	l := ofSome()
	for _, x := range targets() {
		for _, y := range targets() {
			it := started(t, some())
			it.Seek(x)
			it.Seek(y)
			tells(t, "behind two Seeks", it, l[placeIn(l, y):])
			it.Seek(x)
			it.Next()
			it.Seek(y)
			tells(t, "behind Seek, Next and Seek", it, l[placeIn(l, y):])
		}
	}
}

func TestSeek(t *testing.T) {
	it := started(t, rowsOf(times(10, 30, 50), times(20, 30, 40)))
	for _, c := range []struct {
		why      string
		to, want uint64
	}{
		{"ahead of the first Next", 20, 20},
		{"ahead, there", 40, 40},
		{"back, there", 10, 10},
		{"ahead, not there", 41, 50},
		{"back, not there", 11, 20},
		{"ahead of all", 0, 10},
		{"the last", 50, 50},
		{"behind it, and back", 30, 30},
		{"where it stands", 31, 40},
		{"right behind one", 21, 30},
		{"right ahead of one", 29, 30},
	} {
		it.Seek(sample(1, c.to, 1, 0))
		if x, ok := it.Next(); !ok || x != times(c.want)[0] {
			t.Errorf("%s: behind Seek(%d) there is %v, %v", c.why, c.to, x, ok)
		}
	}
	it.Seek(sample(1, 51, 1, 0))
	tells(t, "behind all", it, nil)
	it.Seek(sample(1, 50, 1, 0))
	tells(t, "back to the last", it, times(50))
	it.Seek(tomb(1, 1))
	tells(t, "the delete's place", it, times(10, 20, 30, 40, 50))
	it.Seek(tomb(2, 1))
	tells(t, "the next series", it, nil)
	it.Seek(sample(0, 1<<40, 1, 0))
	tells(t, "the series ahead", it, times(10, 20, 30, 40, 50))
}

// Neither Version nor Value of what is sought counts.
func TestSeekGoesByThePlace(t *testing.T) {
	for _, v := range []uint64{0, 1, 7, 1 << 48} {
		for _, value := range []int64{-1, 0, 3, 9} {
			it := started(t, some())
			it.Seek(sample(1, 3, v, value))
			tells(t, "by the place", it, ofSome()[2:])
		}
	}
}

// What is handed to New may be changed at any time: what Next tells stays.
func TestRowsAreNotKept(t *testing.T) {
	l := ofSome()
	for n := range len(l) + 1 {
		in, _ := lent(some())
		it := New(in)
		for _, x := range l[:n] {
			if got, ok := it.Next(); got != x || !ok {
				t.Fatalf("%v, %v, not %v", got, ok, x)
			}
		}
		spoilRows(in)
		tells(t, "spoiled amid", it, l[n:])
		it.Seek(api.Item{})
		tells(t, "spoiled, and back", it, l)
	}
}

func TestItersStandAlone(t *testing.T) {
	in, same := lent(some())
	a, b := New(in), New(in)
	a.Next()
	a.Seek(sample(255, 0, 1, 1))
	tells(t, "the second", b, ofSome())
	tells(t, "the first", a, ofSome()[5:])
	if want(t, "Rows", Rows(in), ofSome()); !same() {
		t.Error("what was handed in was changed")
	}
}

// Ways

func TestRowsAreOpenedOnce(t *testing.T) {
	for name, ask := range map[string]func(it *Iter){
		"Next": func(it *Iter) { it.Next() },
		"Seek": func(it *Iter) { it.Seek(tomb(1, 1)) },
	} {
		it := New(some())
		if it.items != nil || len(it.rows) != len(some()) {
			t.Errorf("%s: opened ahead of the first call", name)
		}
		ask(it)
		if it.rows != nil || !slices.Equal(it.items, ofSome()) {
			t.Errorf("%s: not opened, or kept", name)
		}
		first := &it.items[0]
		it.Seek(api.Item{})
		tells(t, name, it, ofSome())
		it.rows = rowsOf(times(7))
		it.Seek(api.Item{})
		tells(t, name, it, ofSome())
		if &it.items[0] != first {
			t.Errorf("%s: opened twice", name)
		}
	}
}

func TestOpenOfManyGoroutines(t *testing.T) {
	for range 50 {
		it := New(some())
		var all sync.WaitGroup
		for range 8 {
			all.Go(func() { want(t, "opened", it.open(), ofSome()) })
		}
		all.Wait()
	}
}
