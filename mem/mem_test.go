package mem

import (
	"math"
	"slices"
	"sync"
	"testing"

	"clepsydra/api"
)

// 9.1

func TestOfNone(t *testing.T) {
	m := New()
	holds(t, m)
	frozen(t, m, false)
	applies(t, m)
	if e := m.Apply([]api.Item{}); e != api.OK {
		t.Error(e)
	}
	holds(t, m)
	frozen(t, m, false)
}

func TestApplyOfNoneChangesNothing(t *testing.T) {
	m := New()
	applies(t, m, sample(1, 5, 5, 1), tomb(1, 9))
	applies(t, m)
	applies(t, m, make([]api.Item, 0, 5)...)
	holds(t, m, tomb(1, 9), sample(1, 5, 5, 1))
}

func TestApplyOfOne(t *testing.T) {
	for _, x := range list(
		sample(0, 0, 1, 0), sample(255, 1<<40, 1<<48, math.MaxInt64), sample(3, 7, 9, math.MinInt64),
		tomb(0, 1), tomb(255, 1<<48),
	) {
		m := New()
		applies(t, m, x)
		holds(t, m, x)
	}
}

// There is no bound to what is applied at once: that is said of batches and
// states, above this layer.
func TestApplyOfMany(t *testing.T) {
	var all []api.Item
	for series := range 4 {
		all = append(all, tomb(series, 2))
		for time := range uint64(900) {
			all = append(all, sample(series, time, 1+time%3, int64(time)))
		}
	}
	m := New()
	applies(t, m, all...)
	holds(t, m, all...)
}

func TestApplyRefusesOne(t *testing.T) {
	for _, x := range bad() {
		m := New()
		refuses(t, m, api.ErrArg, x)
		holds(t, m)
		applies(t, m, sample(1, 1, 1, 1))
		refuses(t, m, api.ErrArg, x)
		holds(t, m, sample(1, 1, 1, 1))
	}
}

// None is taken, wherever the one stands that may not be: neither a new place
// nor one that would win at a place that is there.
func TestApplyRefusesAll(t *testing.T) {
	was := list(tomb(1, 3), sample(1, 1, 4, 1), sample(2, 2, 5, 2))
	good := list(sample(0, 1, 9, 9), sample(1, 1, 9, 9), tomb(1, 9), sample(2, 2, 9, 9), sample(3, 3, 9, 9))
	for _, x := range bad() {
		for at := range len(good) + 1 {
			l := slices.Insert(slices.Clone(good), at, x)
			m := New()
			refuses(t, m, api.ErrArg, l...)
			holds(t, m)
			applies(t, m, was...)
			refuses(t, m, api.ErrArg, l...)
			holds(t, m, was...)
			frozen(t, m, false)
			// And what is good is taken behind it.
			applies(t, m, good...)
			holds(t, m, good[0], good[2], good[1], good[3], good[4])
		}
	}
}

func TestApplyRefusesWhereAllAreBad(t *testing.T) {
	m := New()
	refuses(t, m, api.ErrArg, bad()...)
	holds(t, m)
}

func TestApplyOfTheSame(t *testing.T) {
	for _, c := range []struct {
		why       string
		was, x, y api.Item
	}{
		{"a greater Version", sample(1, 5, 5, 1), sample(1, 5, 6, 1), sample(1, 5, 6, 1)},
		{"a greater Version and a lesser Value", sample(1, 5, 5, 1), sample(1, 5, 6, -9), sample(1, 5, 6, -9)},
		{"the greatest Version", sample(1, 5, 1<<48-1, 1), sample(1, 5, 1<<48, 1), sample(1, 5, 1<<48, 1)},
		{"a lesser Version", sample(1, 5, 5, 1), sample(1, 5, 4, 1), sample(1, 5, 5, 1)},
		{"a lesser Version and a greater Value", sample(1, 5, 5, 1), sample(1, 5, 4, 9), sample(1, 5, 5, 1)},
		{"an equal Version and a greater Value", sample(1, 5, 5, 1), sample(1, 5, 5, 2), sample(1, 5, 5, 2)},
		{"an equal Version and a lesser Value", sample(1, 5, 5, 1), sample(1, 5, 5, 0), sample(1, 5, 5, 1)},
		{"Values at their ends", sample(1, 5, 5, math.MinInt64), sample(1, 5, 5, math.MaxInt64), sample(1, 5, 5, math.MaxInt64)},
		{"Values at their ends, turned", sample(1, 5, 5, math.MaxInt64), sample(1, 5, 5, math.MinInt64), sample(1, 5, 5, math.MaxInt64)},
		{"the very same", sample(1, 5, 5, 1), sample(1, 5, 5, 1), sample(1, 5, 5, 1)},
		{"a delete of a greater Version", tomb(1, 5), tomb(1, 6), tomb(1, 6)},
		{"a delete of a lesser Version", tomb(1, 5), tomb(1, 4), tomb(1, 5)},
		{"the very same delete", tomb(1, 5), tomb(1, 5), tomb(1, 5)},
	} {
		one, two, amid := New(), New(), New()
		applies(t, one, c.was, c.x)
		holds(t, one, c.y)
		applies(t, two, c.was)
		applies(t, two, c.x)
		holds(t, two, c.y)
		applies(t, amid, tomb(0, 1), c.was, sample(2, 1, 1, 1))
		applies(t, amid, sample(2, 1, 1, 1), c.x, tomb(0, 1))
		holds(t, amid, tomb(0, 1), c.y, sample(2, 1, 1, 1))
		if t.Failed() {
			t.Fatal(c.why)
		}
	}
}

func TestApplyOfTheSameManyTimes(t *testing.T) {
	m := New()
	for _, v := range []uint64{4, 9, 2, 9, 7, 10, 1} {
		applies(t, m, sample(1, 5, v, int64(v)), sample(1, 5, v, 0), sample(1, 5, 3, 99))
	}
	holds(t, m, sample(1, 5, 10, 10))
}

// Other places are not the same, however near.
func TestNeighboursStayApart(t *testing.T) {
	m := New()
	all := list(tomb(1, 5), sample(1, 0, 5, 0), sample(1, 1, 5, 0), tomb(2, 5), sample(2, 0, 5, 0), sample(2, 256, 5, 0))
	applies(t, m, all...)
	holds(t, m, all...)
}

func TestHiddenOnesStay(t *testing.T) {
	hidden, even, above := sample(3, 1, 4, 1), sample(3, 2, 9, 1), sample(3, 3, 10, 1)
	want := list(tomb(3, 9), hidden, even, above)
	for _, l := range [][]api.Item{
		{tomb(3, 9), hidden, even, above},
		{above, even, hidden, tomb(3, 9)},
		{hidden, tomb(3, 9), above, even},
	} {
		m := New()
		applies(t, m, l...)
		holds(t, m, want...)
		m = New()
		for _, x := range l {
			applies(t, m, x)
		}
		holds(t, m, want...)
		// A sample that a delete hides gives way to another one as ever.
		applies(t, m, sample(3, 1, 5, 0))
		holds(t, m, tomb(3, 9), sample(3, 1, 5, 0), even, above)
	}
}

func TestItemsRiseInAnyOrder(t *testing.T) {
	want := list(tomb(0, 1), sample(0, 1<<40, 1, 1), tomb(1, 1), sample(1, 0, 1, 1), sample(1, 2, 1, 1), sample(255, 0, 1, 1))
	each(len(want), func(order []int) {
		whole, single := New(), New()
		var l []api.Item
		for _, i := range order {
			l = append(l, want[i])
			applies(t, single, want[i])
		}
		applies(t, whole, l...)
		holds(t, whole, want...)
		holds(t, single, want...)
	})
}

// each calls f with the numbers below n in each of their orders.
func each(n int, f func(order []int)) {
	var lay func(order []int)
	lay = func(order []int) {
		if len(order) == n {
			f(order)
			return
		}
		for i := range n {
			if !slices.Contains(order, i) {
				lay(append(slices.Clip(order), i))
			}
		}
	}
	lay(nil)
}

func TestLenAndBytes(t *testing.T) {
	m := New()
	for n, c := range []struct {
		l    []api.Item
		want int
	}{
		{nil, 0},
		{list(api.Item{}), 0},
		{list(sample(1, 1, 5, 1)), 1},
		{list(sample(1, 1, 5, 1)), 1},
		{list(sample(1, 1, 4, 1)), 1},
		{list(sample(1, 1, 6, 1)), 1},
		{list(sample(1, 2, 6, 1), tomb(256, 6)), 1},
		{list(tomb(1, 9)), 2},
		{list(tomb(1, 10), tomb(1, 11), sample(1, 1, 7, 1)), 2},
		{list(sample(2, 0, 1, 1), sample(2, 0, 2, 1), sample(2, 1, 1, 1)), 4},
		{nil, 4},
	} {
		m.Apply(c.l)
		if m.Len() != c.want || m.Bytes() != 28*c.want || len(m.Items()) != c.want {
			t.Errorf("Len is %d, Bytes %d behind Apply %d, not of %d", m.Len(), m.Bytes(), n, c.want)
		}
	}
}

func TestFreeze(t *testing.T) {
	x, y := sample(1, 1, 5, 1), tomb(2, 5)
	m := New()
	applies(t, m, y, x)
	frozen(t, m, false)
	for range 3 {
		m.Freeze()
		frozen(t, m, true)
		refuses(t, m, api.ErrReadOnly)
		refuses(t, m, api.ErrReadOnly, []api.Item{}...)
		refuses(t, m, api.ErrReadOnly, x)
		refuses(t, m, api.ErrReadOnly, sample(1, 1, 6, 1), tomb(9, 9))
		refuses(t, m, api.ErrReadOnly, tomb(9, 9), api.Item{})
		for _, z := range bad() {
			refuses(t, m, api.ErrReadOnly, z)
		}
		frozen(t, m, true)
		holds(t, m, x, y)
	}
}

func TestFreezeOfNone(t *testing.T) {
	m := New()
	m.Freeze()
	frozen(t, m, true)
	refuses(t, m, api.ErrReadOnly)
	refuses(t, m, api.ErrReadOnly, sample(1, 1, 1, 1))
	holds(t, m)
}

func TestARefusalFreezesNothing(t *testing.T) {
	m := New()
	refuses(t, m, api.ErrArg, api.Item{})
	frozen(t, m, false)
	applies(t, m, tomb(1, 1))
	frozen(t, m, false)
	holds(t, m, tomb(1, 1))
}

// 9.3, and the document's rule 3

func TestApplyKeepsNothingThatItIsHanded(t *testing.T) {
	room := list(tomb(1, 9), sample(1, 5, 5, 1), sample(0, 1, 1, 1), sample(7, 7, 7, 7), api.Item{})
	was := slices.Clone(room)
	m := New()
	applies(t, m, room[:3]...)
	if !slices.Equal(room, was) {
		t.Error("Apply changed its list, or what is behind it")
	}
	for i := range room {
		room[i] = sample(200, 9, 9, 9)
	}
	holds(t, m, sample(0, 1, 1, 1), tomb(1, 9), sample(1, 5, 5, 1))
	refuses(t, m, api.ErrArg, append(room[:1], api.Item{})...)
	if room[0] != sample(200, 9, 9, 9) || room[2] != sample(200, 9, 9, 9) {
		t.Error("an Apply that was refused changed its list")
	}
}

func TestItemsIsNewMemory(t *testing.T) {
	m := New()
	want := list(tomb(1, 9), sample(1, 1, 1, 1), sample(1, 2, 1, 1), sample(1, 3, 1, 1), sample(2, 0, 1, 1))
	applies(t, m, want...)
	for range 2 {
		got, again := m.Items(), m.Items()
		for i := range got[:cap(got)] {
			got[:cap(got)][i] = sample(200, 9, 9, 9)
		}
		if !slices.Equal(again, want) {
			t.Error("two answers share memory")
		}
		holds(t, m, want...)
		m.Freeze()
	}
}

func TestItemsIsWhatWasThen(t *testing.T) {
	m := New()
	applies(t, m, sample(1, 1, 1, 1), sample(1, 3, 1, 1))
	then := m.Items()
	applies(t, m, sample(1, 1, 2, 2), sample(1, 2, 1, 1), tomb(0, 1))
	if !slices.Equal(then, list(sample(1, 1, 1, 1), sample(1, 3, 1, 1))) {
		t.Errorf("an answer became %v", then)
	}
}

func TestMemsStandAlone(t *testing.T) {
	a, b := New(), New()
	applies(t, a, sample(1, 1, 1, 1))
	holds(t, b)
	applies(t, b, tomb(1, 1))
	a.Freeze()
	frozen(t, b, false)
	applies(t, b, tomb(2, 1))
	holds(t, a, sample(1, 1, 1, 1))
	holds(t, b, tomb(1, 1), tomb(2, 1))
}

// Ways

// The size is right behind Applies that went on beside each other, and all who
// freeze find it frozen.
func TestOneMemOfManyGoroutines(t *testing.T) {
	const hands, places, batch = 8, 500, 5
	m := New()
	var all sync.WaitGroup
	for i := range hands {
		all.Go(func() {
			last := 1
			for n := range places {
				var l []api.Item
				for k := range batch {
					at := (n*7 + i*31 + k) % places
					l = append(l, sample(at%3, uint64(at), uint64(1+i), int64(i)))
				}
				applies(t, m, l...)
				size := m.Len()
				if size < last || size > places {
					t.Errorf("Len is %d behind %d", size, last)
				}
				last = size
			}
		})
	}
	all.Wait()
	var want []api.Item
	for series := range 3 {
		for at := series; at < places; at += 3 {
			want = append(want, sample(series, uint64(at), hands, hands-1))
		}
	}
	holds(t, m, want...)
	for range hands {
		all.Go(func() {
			m.Freeze()
			frozen(t, m, true)
			refuses(t, m, api.ErrReadOnly, tomb(1, 1))
		})
	}
	all.Wait()
	holds(t, m, want...)
}

// One who counted ahead of another does not take back what that one counted.
func TestTheSizeNeverFalls(t *testing.T) {
	const hands, places = 8, 3000
	m := New()
	var all sync.WaitGroup
	for i := range hands {
		all.Go(func() {
			for n := range places {
				was := m.Len()
				m.Apply(list(sample(i, uint64(n), 1, 1)))
				if now := m.Len(); now <= was || now <= n {
					t.Errorf("Len is %d behind %d, and %d of one hand", now, was, n+1)
				}
			}
		})
	}
	all.Wait()
	if m.Len() != hands*places || m.Bytes() != 28*hands*places {
		t.Errorf("Len is %d, Bytes %d of %d", m.Len(), m.Bytes(), hands*places)
	}
	m.grow(1)
	if m.Len() != hands*places {
		t.Errorf("Len fell to %d", m.Len())
	}
}
