package stamp

import (
	"math"
	"math/rand/v2"
	"sync"
	"testing"

	"clepsydra/api"
)

// 7.1

func TestNew(t *testing.T) {
	for _, c := range []struct {
		node int
		from uint64
		e    api.Errno
	}{
		{0, 0, api.OK},
		{6, 0, api.OK},
		{2, 5, api.OK},
		{0, top, api.OK},
		{6, top, api.OK},
		{-1, 0, api.ErrArg},
		{7, 0, api.ErrArg},
		{8, 0, api.ErrArg},
		{math.MinInt, 0, api.ErrArg},
		{math.MaxInt, 0, api.ErrArg},
		{0, top + 1, api.ErrOver},
		{6, top + 1, api.ErrOver},
		{6, math.MaxUint64, api.ErrOver},
		{-1, top + 1, api.ErrArg},
		{7, top + 1, api.ErrArg},
		{7, math.MaxUint64, api.ErrArg},
	} {
		clock, e := New(c.node, c.from)
		if e != c.e || (clock == nil) != (e != api.OK) {
			t.Errorf("New(%d, %d) is %v, %v", c.node, c.from, clock, e)
		}
		if clock != nil {
			holds(t, clock, c.from, c.from)
		}
	}
}

func TestClocksStandAlone(t *testing.T) {
	a, b := clock(t, 1, 5), clock(t, 1, 5)
	a.Renew(9)
	tells(t, a, 6*8+1)
	a.See(8 * 8)
	holds(t, a, 8, 9)
	holds(t, b, 5, 5)
	refuses(t, b, api.ErrLease)
}

func TestNextOfANewClock(t *testing.T) {
	for _, from := range []uint64{0, 1, 5, top - 1} {
		c := clock(t, 2, from)
		refuses(t, c, api.ErrLease)
		refuses(t, c, api.ErrLease)
		holds(t, c, from, from)
	}
	c := clock(t, 2, top)
	refuses(t, c, api.ErrOver)
	holds(t, c, top, top)
}

func TestNextOfTheExample(t *testing.T) {
	c := clock(t, 2, 0)
	if !c.Renew(10) {
		t.Fatal("no lease of 10")
	}
	tells(t, c, 10)
	holds(t, c, 1, 10)
}

func TestNextUpToTheLease(t *testing.T) {
	for node := range 7 {
		c := clock(t, node, 100)
		c.Renew(103)
		tells(t, c, 101*8+uint64(node))
		tells(t, c, 102*8+uint64(node))
		tells(t, c, 103*8+uint64(node))
		refuses(t, c, api.ErrLease)
		refuses(t, c, api.ErrLease)
		holds(t, c, 103, 103)
		if !c.Renew(104) {
			t.Fatal("no lease of 104")
		}
		tells(t, c, 104*8+uint64(node))
		refuses(t, c, api.ErrLease)
	}
}

func TestNextBehindASee(t *testing.T) {
	c := clock(t, 4, 0)
	c.Renew(10)
	c.See(8 * 8)
	tells(t, c, 9*8+4)
	c.See(9 * 8)
	tells(t, c, 10*8+4)

	c = clock(t, 4, 0)
	c.Renew(10)
	c.See(10 * 8)
	refuses(t, c, api.ErrLease)
	holds(t, c, 10, 10)

	c = clock(t, 4, 0)
	c.Renew(10)
	c.See(50 * 8)
	refuses(t, c, api.ErrLease)
	holds(t, c, 50, 10)
	for _, to := range []uint64{11, 49, 50} {
		if !c.Renew(to) {
			t.Fatalf("no lease of %d", to)
		}
		refuses(t, c, api.ErrLease)
		holds(t, c, 50, to)
	}
	c.Renew(51)
	tells(t, c, 51*8+4)
}

func TestNextAtTheEnd(t *testing.T) {
	c := clock(t, 6, top-2)
	c.Renew(top)
	tells(t, c, (top-1)*8+6)
	tells(t, c, top*8+6)
	refuses(t, c, api.ErrOver)
	refuses(t, c, api.ErrOver)
	holds(t, c, top, top)

	c = clock(t, 6, 3)
	c.Renew(9)
	c.See(top * 8)
	refuses(t, c, api.ErrOver)
	holds(t, c, top, 9)
	c.Renew(top)
	refuses(t, c, api.ErrOver)
	holds(t, c, top, top)
}

func TestSee(t *testing.T) {
	for _, c := range []struct {
		why  string
		v    uint64
		want uint64
	}{
		{"nothing", 0, 100},
		{"less than a counter", 7, 100},
		{"below", 99 * 8, 100},
		{"below, its last", 99*8 + 7, 100},
		{"at, its first", 100 * 8, 100},
		{"at, its own", 100*8 + 3, 100},
		{"at, its last", 100*8 + 7, 100},
		{"one above", 101 * 8, 101},
		{"one above, its last", 101*8 + 7, 101},
		{"far above", 5000*8 + 1, 5000},
		{"one below the end", (top-1)*8 + 7, top - 1},
		{"the end", top * 8, top},
		{"the end, its last", top*8 + 7, top},
		{"above the end", (top + 1) * 8, top},
		{"the greatest version", 1 << 48, top},
		{"above the greatest version", 1<<48 + 1, top},
		{"the greatest number", math.MaxUint64, top},
	} {
		clock := clock(t, 3, 50)
		clock.Renew(150)
		clock.See(100 * 8)
		for range 2 {
			clock.See(c.v)
			if now := clock.Now(); now != c.want || clock.Lease() != 150 {
				t.Errorf("%s: %d, lease %d", c.why, now, clock.Lease())
			}
		}
	}
}

func TestRenew(t *testing.T) {
	for _, c := range []struct {
		to    uint64
		ok    bool
		lease uint64
	}{
		{0, false, 100},
		{1, false, 100},
		{30, false, 100},
		{99, false, 100},
		{100, false, 100},
		{101, true, 101},
		{5000, true, 5000},
		{top - 1, true, top - 1},
		{top, true, top},
		{top + 1, false, 100},
		{1 << 48, false, 100},
		{math.MaxUint64, false, 100},
	} {
		clock := clock(t, 3, 30)
		if !clock.Renew(100) {
			t.Fatal("no lease of 100")
		}
		if ok := clock.Renew(c.to); ok != c.ok {
			t.Errorf("Renew(%d) is %v", c.to, ok)
		}
		holds(t, clock, 30, c.lease)
		if clock.Renew(c.to) {
			t.Errorf("a second Renew(%d) is true", c.to)
		}
		holds(t, clock, 30, c.lease)
	}
}

func TestRenewOfAnOldClock(t *testing.T) {
	c := clock(t, 3, top)
	for _, to := range []uint64{0, top - 1, top, top + 1, math.MaxUint64} {
		if c.Renew(to) {
			t.Errorf("Renew(%d) at the end is true", to)
		}
		holds(t, c, top, top)
	}
}

// 7.2

func TestNoVersionIsToldTwice(t *testing.T) {
	for seed := range uint64(40) {
		r := rand.New(rand.NewPCG(72, seed))
		from := []uint64{0, 1000, top - 3000}[seed%3]
		talk := talk{t: t, told: map[uint64]int{}}
		for _, node := range r.Perm(7)[:2+r.IntN(6)] {
			talk.clocks = append(talk.clocks, clock(t, node, from))
			talk.nodes = append(talk.nodes, node)
			talk.seen = append(talk.seen, 0)
		}
		for range 4000 {
			talk.step(r)
		}
		if len(talk.told) < 500 {
			t.Fatalf("only %d versions were told", len(talk.told))
		}
	}
}

// talk is several Clocks that tell each other versions. Of each it keeps the
// greatest version that it has told or seen.
type talk struct {
	t      *testing.T
	clocks []*Clock
	nodes  []int
	seen   []uint64
	told   map[uint64]int
	last   []uint64
}

func (w *talk) step(r *rand.Rand) {
	i := r.IntN(len(w.clocks))
	switch r.IntN(12) {
	case 0, 1:
		if len(w.last) > 0 {
			w.see(i, w.last[r.IntN(len(w.last))])
		}
	case 2:
		w.see(i, w.seen[i]+r.Uint64N(40))
	case 3:
		w.anew(i)
	default:
		w.next(i, r)
	}
}

func (w *talk) see(i int, v uint64) {
	w.clocks[i].See(v)
	w.seen[i] = max(w.seen[i], v)
}

// anew puts in the Clock's place one that knows nothing but its lease, as
// behind a loss of power: what it had seen is forgotten, what it told is not.
func (w *talk) anew(i int) {
	w.clocks[i] = clock(w.t, w.nodes[i], w.clocks[i].Lease())
	w.seen[i] = 0
}

func (w *talk) next(i int, r *rand.Rand) {
	w.t.Helper()
	v, e := w.clocks[i].Next()
	if e == api.ErrLease {
		to := max(w.clocks[i].Now(), w.clocks[i].Lease()) + 1 + r.Uint64N(16)
		w.clocks[i].Renew(min(to, top))
		v, e = w.clocks[i].Next()
	}
	if e == api.ErrOver {
		return
	}
	if e != api.OK {
		w.t.Fatalf("Next behind a Renew: %v", e)
	}
	if by, twice := w.told[v]; twice {
		w.t.Fatalf("%d was told by node %d and by node %d", v, by, w.nodes[i])
	}
	if v <= w.seen[i] {
		w.t.Fatalf("%d was told behind %d", v, w.seen[i])
	}
	if _, node := Split(v); node != w.nodes[i] {
		w.t.Fatalf("%d was told by node %d", v, w.nodes[i])
	}
	w.told[v], w.seen[i] = w.nodes[i], v
	w.last = append(w.last, v)
}

// Nothing that was seen is so great that something lesser is told behind it.
func TestNothingIsToldBelowWhatWasSeen(t *testing.T) {
	for shift := range 64 {
		for by := -9; by <= 9; by++ {
			v := uint64(1)<<shift + uint64(by)
			c := clock(t, 0, 0)
			c.Renew(top)
			c.See(v)
			if next, e := c.Next(); e == api.OK && next <= v {
				t.Errorf("%d was told behind %d", next, v)
			} else if e != api.OK && v < top*8 {
				t.Errorf("nothing was told behind %d: %v", v, e)
			}
		}
	}
}

// Ways

// Several goroutines that ask one Clock, and show it more, are told no version
// twice either: its counters go up in one step, or not at all.
func TestOneClockOfManyGoroutines(t *testing.T) {
	const hands, calls = 8, 2000
	c := clock(t, 5, 0)
	told := make([][]uint64, hands)
	var all sync.WaitGroup
	for i := range hands {
		all.Go(func() {
			for n := range uint64(calls) {
				before := c.Now()
				c.See((n + uint64(i)) * 8)
				c.Renew(before + 3)
				if v, e := c.Next(); e == api.OK {
					told[i] = append(told[i], v)
					if v <= before*8+7 {
						t.Errorf("%d was told behind the counter %d", v, before)
					}
				}
			}
		})
	}
	all.Wait()
	seen := map[uint64]bool{}
	for _, l := range told {
		for _, v := range l {
			if counter, _ := Split(v); seen[v] || counter > c.Lease() || counter > c.Now() {
				t.Fatalf("%d was told twice, or above the lease %d or the counter %d", v, c.Lease(), c.Now())
			}
			seen[v] = true
		}
	}
	if len(seen) < calls/4 {
		t.Errorf("only %d versions were told", len(seen))
	}
}

// Each lease is given to one of those who ask for it at the same time.
func TestALeaseIsRenewedOnce(t *testing.T) {
	c := clock(t, 5, 0)
	var got [8]int
	var all sync.WaitGroup
	for i := range got {
		all.Go(func() {
			for to := range uint64(2001) {
				if c.Renew(to) {
					got[i]++
				}
			}
		})
	}
	all.Wait()
	sum := 0
	for _, n := range got {
		sum += n
	}
	if sum > 2000 || c.Lease() != 2000 {
		t.Errorf("%d leases up to 2000 were given, the last of them %d", sum, c.Lease())
	}
}

func clock(t *testing.T, node int, from uint64) *Clock {
	t.Helper()
	c, e := New(node, from)
	if e != api.OK {
		t.Fatalf("New(%d, %d): %v", node, from, e)
	}
	return c
}

func tells(t *testing.T, c *Clock, want uint64) {
	t.Helper()
	if v, e := c.Next(); v != want || e != api.OK {
		t.Errorf("Next is %d, %v, not %d", v, e, want)
	}
}

func refuses(t *testing.T, c *Clock, want api.Errno) {
	t.Helper()
	now, lease := c.Now(), c.Lease()
	if v, e := c.Next(); v != 0 || e != want {
		t.Errorf("Next is %d, %v, not %v", v, e, want)
	}
	holds(t, c, now, lease)
}

func holds(t *testing.T, c *Clock, now, lease uint64) {
	t.Helper()
	if c.Now() != now || c.Lease() != lease {
		t.Errorf("counter and lease are %d and %d, not %d and %d", c.Now(), c.Lease(), now, lease)
	}
}
