package state

import (
	"encoding/binary"
	"math"
	"math/rand/v2"
	"slices"
	"testing"

	"clepsydra/api"
)

func some() []api.Item {
	return list(
		sample(0, 0, 1, 5),
		tomb(1, 6), sample(1, 0, 7, 1), sample(1, 3, 7, 2), sample(1, 9, 8, 4), sample(1, 1<<40, 9, 4),
		tomb(2, 3),
		sample(255, 1, 1<<48, 3),
	)
}

// asked asks call of l, as fresh does.
func asked(t *testing.T, l []api.Item, call func(l []api.Item) []api.Item) []api.Item {
	t.Helper()
	return fresh(t, func(a, _ []api.Item) []api.Item { return call(a) }, l, nil)
}

// 6.2

func TestSeries(t *testing.T) {
	l := some()
	for _, c := range []struct {
		s    int
		want []api.Item
	}{
		{0, l[:1]}, {1, l[1:6]}, {2, l[6:7]}, {255, l[7:]},
		{3, nil}, {254, nil}, {-1, nil}, {256, nil}, {257, nil}, {math.MinInt, nil}, {math.MaxInt, nil},
	} {
		ask := func(l []api.Item) []api.Item { return Series(l, c.s) }
		want(t, "Series", asked(t, l, ask), c.want)
		want(t, "Series of none", asked(t, nil, ask), nil)
	}
}

func TestRange(t *testing.T) {
	l := some()
	for _, c := range []struct {
		s      int
		lo, hi uint64
		want   []api.Item
	}{
		{1, 0, math.MaxUint64, l[2:6]},
		{1, 0, 1 << 40, l[2:6]},
		{1, 0, 1<<40 - 1, l[2:5]},
		{1, 1, 9, l[3:5]},
		{1, 3, 9, l[3:5]},
		{1, 3, 8, l[3:4]},
		{1, 4, 8, nil},
		{1, 0, 0, l[2:3]},
		{1, 3, 3, l[3:4]},
		{1, 4, 4, nil},
		{1, 1 << 40, 1 << 40, l[5:6]},
		{1, 9, 3, nil},
		{1, 1, 0, nil},
		{1, math.MaxUint64, 0, nil},
		{1, 1<<40 + 1, math.MaxUint64, nil},
		{0, 0, 0, l[:1]},
		{2, 0, math.MaxUint64, nil},
		{3, 0, math.MaxUint64, nil},
		{255, 1, 1, l[7:]},
		{-1, 0, math.MaxUint64, nil},
		{256, 0, math.MaxUint64, nil},
	} {
		ask := func(l []api.Item) []api.Item { return Range(l, c.s, c.lo, c.hi) }
		want(t, "Range", asked(t, l, ask), c.want)
		want(t, "Range of none", asked(t, nil, ask), nil)
	}
}

func TestGet(t *testing.T) {
	l := some()
	for _, x := range l {
		if got, ok := Get(l, x.Series, x.Time); x.Kind == api.ISample && (got != x || !ok) {
			t.Errorf("%v is told as %v, %v", x, got, ok)
		}
	}
	for _, c := range []struct {
		s    int
		time uint64
	}{{1, 1}, {1, 2}, {1, 4}, {1, 10}, {1, 1<<40 + 1}, {1, math.MaxUint64}, {2, 0}, {3, 0}, {0, 1}, {255, 0}, {-1, 0}, {256, 1}, {-1, 1}} {
		if got, ok := Get(l, c.s, c.time); got != (api.Item{}) || ok {
			t.Errorf("Get(%d, %d) = %v, %v", c.s, c.time, got, ok)
		}
	}
	if got, ok := Get(nil, 1, 0); got != (api.Item{}) || ok {
		t.Error("of none", got, ok)
	}
}

func TestTomb(t *testing.T) {
	for _, c := range []struct {
		s    int
		want uint64
	}{{0, 0}, {1, 6}, {2, 3}, {3, 0}, {255, 0}, {-1, 0}, {256, 0}, {257, 0}} {
		if got := Tomb(some(), c.s); got != c.want {
			t.Errorf("Tomb(%d) = %d, want %d", c.s, got, c.want)
		}
	}
	if Tomb(nil, 1) != 0 || Tomb(list(tomb(255, 1<<48)), 255) != 1<<48 || Tomb(list(tomb(0, 1)), 0) != 1 {
		t.Error("the ends")
	}
}

func TestUpto(t *testing.T) {
	l := some()
	for _, c := range []struct {
		v    uint64
		want []api.Item
	}{
		{0, nil},
		{1, l[:1]},
		{2, l[:1]},
		{3, list(l[0], l[6])},
		{5, list(l[0], l[6])},
		{6, list(l[0], l[1], l[6])},
		{7, list(l[0], l[1], l[2], l[3], l[6])},
		{9, l[:7]},
		{1<<48 - 1, l[:7]},
		{1 << 48, l},
		{math.MaxUint64, l},
	} {
		ask := func(l []api.Item) []api.Item { return Upto(l, c.v) }
		want(t, "Upto", asked(t, l, ask), c.want)
		want(t, "Upto of none", asked(t, nil, ask), nil)
	}
}

func TestPurge(t *testing.T) {
	l := some()
	without := func(gone ...int) []api.Item {
		var own []api.Item
		for i, x := range l {
			if !slices.Contains(gone, i) {
				own = append(own, x)
			}
		}
		return own
	}
	for _, c := range []struct {
		v    uint64
		want []api.Item
	}{
		{0, l}, {1, l}, {2, l}, {3, without(6)}, {4, without(6)}, {5, without(6)},
		{6, without(1, 6)}, {7, without(1, 6)}, {1 << 48, without(1, 6)}, {math.MaxUint64, without(1, 6)},
	} {
		ask := func(l []api.Item) []api.Item { return Purge(l, c.v) }
		want(t, "Purge", asked(t, l, ask), c.want)
		want(t, "Purge of none", asked(t, nil, ask), nil)
	}
	want(t, "deletes alone", Purge(list(tomb(0, 1), tomb(255, 1<<48)), 1<<48), nil)
	want(t, "the greatest stays", Purge(list(tomb(0, 1), tomb(255, 1<<48)), 1<<48-1), list(tomb(255, 1<<48)))
}

func TestTop(t *testing.T) {
	for _, c := range []struct {
		l    []api.Item
		want uint64
	}{
		{nil, 0}, {list(), 0}, {some(), 1 << 48}, {some()[:7], 9}, {some()[:2], 6}, {some()[6:7], 3},
		{list(sample(1, 1, 9, 1), sample(1, 2, 3, 1)), 9}, {list(sample(1, 1, 3, 1), sample(1, 2, 9, 1)), 9},
		{list(tomb(1, 1)), 1},
	} {
		if in, same := spare(c.l); Top(in) != c.want || !same() {
			t.Errorf("Top(%v) = %d, want %d", c.l, Top(c.l), c.want)
		}
	}
}

func TestSame(t *testing.T) {
	l := some()
	if !Same(l, some()) || !Same(l, l) || !Same(nil, nil) || !Same(nil, list()) || !Same(list(), nil) || !Same(l[:0], nil) {
		t.Error("the same")
	}
	for n := range l {
		if Same(l, l[:n]) || Same(l[:n], l) || Same(l, l[n+1:]) || Same(l[n+1:], l) {
			t.Error("unlike lengths:", n)
		}
		for _, change := range []func(x *api.Item){
			func(x *api.Item) { x.Series++ },
			func(x *api.Item) { x.Kind++ },
			func(x *api.Item) { x.Time++ },
			func(x *api.Item) { x.Version++ },
			func(x *api.Item) { x.Value++ },
		} {
			other := some()
			change(&other[n])
			if Same(l, other) || Same(other, l) {
				t.Errorf("%v is not %v", other[n], l[n])
			}
		}
	}
	turned := some()
	slices.Reverse(turned)
	if Same(l, turned) {
		t.Error("another order")
	}
	if odd := append(some(), bad()...); !Same(odd, append(some(), bad()...)) {
		t.Error("what may not be is the same as itself")
	}
}

func TestAsksOfLongStates(t *testing.T) {
	r := rand.New(rand.NewPCG(6, 6))
	for n := range 200 {
		l := Of(anyList(r, n))
		s, v, time := anyItem(r).Series, uint64(r.IntN(7)), uint64(r.IntN(4))
		var series, times, upto, purged []api.Item
		at, gone, top := api.Item{}, uint64(0), uint64(0)
		for _, x := range l {
			top = max(top, x.Version)
			if x.Version <= v {
				upto = append(upto, x)
			}
			if x.Version > v || x.Kind == api.ISample {
				purged = append(purged, x)
			}
			if x.Series != s {
				continue
			}
			series = append(series, x)
			if x.Kind == api.ITomb {
				gone = x.Version
			} else if x.Time == time || x.Time == time+1 {
				times = append(times, x)
			}
			if x.Kind == api.ISample && x.Time == time {
				at = x
			}
		}
		want(t, "Series", Series(l, s), series)
		want(t, "Range", Range(l, s, time, time+1), times)
		want(t, "Upto", Upto(l, v), upto)
		want(t, "Purge", Purge(l, v), purged)
		got, ok := Get(l, s, time)
		if got != at || ok != (at != api.Item{}) || Tomb(l, s) != gone || Top(l) != top {
			t.Fatalf("of %v: %v, %v, %d, %d", l, got, ok, Tomb(l, s), Top(l))
		}
		for _, part := range [][]api.Item{series, times, upto, purged} {
			if !Ok(part) {
				t.Fatalf("%v: no state, though a part of one", part)
			}
		}
	}
}

// Ways

func TestARowIsMadeOnce(t *testing.T) {
	asked := 0
	r := row{room: func() int { asked++; return 3 }}
	if r.items != nil || asked != 0 {
		t.Error("made ahead of its first item")
	}
	for n := range 3 {
		r.put(sample(1, uint64(n), 1, 1))
		if asked != 1 || cap(r.items) != 3 || len(r.items) != n+1 {
			t.Error("made", asked, "times, with room for", cap(r.items))
		}
	}
	l := Of(some())
	if a, b := Series(l, 1), Upto(l, 6); cap(a) != len(a) || cap(b) != len(b) {
		t.Error("more room than was asked for")
	}
}

// 6.4

// items reads items of any numbers from bytes, small numbers more often.
func items(b []byte) []api.Item {
	var l []api.Item
	for len(b) >= 6 {
		x := api.Item{Series: int(int8(b[1])), Kind: int(b[2] % 4), Time: uint64(b[3]), Version: uint64(b[4]), Value: int64(int8(b[5]))}
		wide := b[0]
		b = b[6:]
		if wide >= 240 && len(b) >= 8 {
			n := binary.LittleEndian.Uint64(b)
			b = b[8:]
			switch wide % 5 {
			case 0:
				x.Series = int(n)
			case 1:
				x.Kind = int(n)
			case 2:
				x.Time = n
			case 3:
				x.Version = n
			case 4:
				x.Value = int64(n)
			}
		}
		l = append(l, x)
	}
	return l
}

func FuzzNoCallPanics(f *testing.F) {
	f.Add([]byte(nil), []byte("\x00\x01\x02\x03\x04\x05"), 1, uint64(0), uint64(9))
	f.Add([]byte("\x00\x01\x01\x00\x05\x00\x00\x01\x02\x07\x04\x00"), []byte("\x00\x01\x02\x07\x06\x00\xf0\x00\x00\x00\x00\x00\xff\xff\xff\xff\xff\xff\xff\xff"), -1, uint64(math.MaxUint64), uint64(0))
	r := rand.New(rand.NewPCG(6, 7))
	for range 200 {
		var b [120]byte
		for i := range b {
			b[i] = byte(r.IntN(4))
			if r.IntN(20) == 0 {
				b[i] = byte(r.IntN(256))
			}
		}
		f.Add(b[:60], b[60:], r.IntN(5)-1, uint64(r.IntN(5)), r.Uint64())
	}
	f.Fuzz(func(t *testing.T, inA, inB []byte, s int, n, m uint64) {
		a, b := items(inA), items(inB)
		if Ok(a) != plainOk(a) {
			t.Errorf("Ok(%v) is %v", a, Ok(a))
		}
		want(t, "Of", of(t, a), plainOf(a))
		want(t, "Join", join(t, a, b), plainJoin(a, b))
		want(t, "turned round", Join(b, a), Join(a, b))
		for _, x := range b {
			want(t, "Add", add(t, a, x), plainAdd(a, x))
			want(t, "Add to a state", add(t, Of(a), x), plainAdd(plainOf(a), x))
		}
		for _, call := range []func(l []api.Item) []api.Item{
			func(l []api.Item) []api.Item { return Series(l, s) },
			func(l []api.Item) []api.Item { return Range(l, s, n, m) },
			func(l []api.Item) []api.Item { return Upto(l, n) },
			func(l []api.Item) []api.Item { return Purge(l, n) },
		} {
			if got := asked(t, a, call); len(got) > len(a) || Top(got) > Top(a) {
				t.Errorf("%v of %v", got, a)
			}
		}
		x, ok := Get(a, s, n)
		if ok != (len(Range(a, s, n, n)) > 0) || ok && !slices.Contains(a, x) || !ok && x != (api.Item{}) {
			t.Errorf("Get(%v, %d, %d) = %v, %v", a, s, n, x, ok)
		}
		if v := Tomb(a, s); v != 0 && !slices.ContainsFunc(a, func(x api.Item) bool { return x.Series == s && x.Version == v }) {
			t.Errorf("Tomb(%v, %d) = %d", a, s, v)
		}
		if Same(a, b) != slices.Equal(a, b) {
			t.Errorf("Same(%v, %v)", a, b)
		}
	})
}
