package stamp

import (
	"math"
	"math/rand/v2"
	"testing"

	"clepsydra/api"
)

// top is the greatest counter, as the chapter writes it.
const top = uint64(1) << 40

// 7.1

func TestMake(t *testing.T) {
	for _, c := range []struct {
		counter uint64
		node    int
		v       uint64
		e       api.Errno
	}{
		{1, 2, 10, api.OK},
		{1, 0, 8, api.OK},
		{1, 6, 14, api.OK},
		{2, 0, 16, api.OK},
		{300, 5, 2405, api.OK},
		{top - 1, 6, 1<<43 - 2, api.OK},
		{top, 0, 1 << 43, api.OK},
		{top, 6, 1<<43 + 6, api.OK},
		{1, -1, 0, api.ErrArg},
		{1, 7, 0, api.ErrArg},
		{1, 8, 0, api.ErrArg},
		{1, math.MinInt, 0, api.ErrArg},
		{1, math.MaxInt, 0, api.ErrArg},
		{top, -1, 0, api.ErrArg},
		{top, 7, 0, api.ErrArg},
		{0, 0, 0, api.ErrOver},
		{0, 6, 0, api.ErrOver},
		{top + 1, 0, 0, api.ErrOver},
		{top + 1, 6, 0, api.ErrOver},
		{1 << 61, 1, 0, api.ErrOver},
		{1<<61 + 1, 1, 0, api.ErrOver},
		{math.MaxUint64, 0, 0, api.ErrOver},
		{math.MaxUint64, 6, 0, api.ErrOver},
		{0, -1, 0, api.ErrArg},
		{0, 7, 0, api.ErrArg},
		{0, math.MinInt, 0, api.ErrArg},
		{top + 1, -1, 0, api.ErrArg},
		{top + 1, 7, 0, api.ErrArg},
		{math.MaxUint64, math.MaxInt, 0, api.ErrArg},
	} {
		if v, e := Make(c.counter, c.node); v != c.v || e != c.e {
			t.Errorf("Make(%d, %d) is %d, %v", c.counter, c.node, v, e)
		}
	}
}

func TestSplitOfMake(t *testing.T) {
	for _, counter := range counters() {
		for node := -2; node < 10; node++ {
			v, e := Make(counter, node)
			if e != api.OK {
				if v != 0 {
					t.Errorf("Make(%d, %d) is %d beside %v", counter, node, v, e)
				}
				continue
			}
			if c, n := Split(v); c != counter || n != node {
				t.Errorf("Split(Make(%d, %d)) is %d, %d", counter, node, c, n)
			}
		}
	}
}

func TestSplitOfAnyNumber(t *testing.T) {
	for _, c := range []struct {
		v, counter uint64
		node       int
	}{
		{0, 0, 0},
		{1, 0, 1},
		{6, 0, 6},
		{7, 0, 7},
		{8, 1, 0},
		{10, 1, 2},
		{15, 1, 7},
		{1<<43 - 1, top - 1, 7},
		{1 << 43, top, 0},
		{1<<43 + 7, top, 7},
		{1<<43 + 8, top + 1, 0},
		{1 << 48, 1 << 45, 0},
		{1 << 63, 1 << 60, 0},
		{math.MaxUint64 - 7, 1<<61 - 1, 0},
		{math.MaxUint64, 1<<61 - 1, 7},
	} {
		if counter, node := Split(c.v); counter != c.counter || node != c.node {
			t.Errorf("Split(%d) is %d, %d", c.v, counter, node)
		}
	}
	r := rand.New(rand.NewPCG(7, 1))
	for range 10000 {
		v := r.Uint64() >> r.IntN(64)
		if counter, node := Split(v); node < 0 || node > 7 || counter*8+uint64(node) != v {
			t.Fatalf("Split(%d) is %d, %d", v, counter, node)
		}
	}
}

// Versions go by their counters first, then by their nodes.
func TestMakeKeepsTheOrder(t *testing.T) {
	last := uint64(0)
	for _, from := range []uint64{1, 1000, 1 << 32, top - 20} {
		for counter := from; counter <= from+20; counter++ {
			for node := range 7 {
				v, e := Make(counter, node)
				if e != api.OK || v <= last {
					t.Fatalf("Make(%d, %d) is %d, %v, behind %d", counter, node, v, e, last)
				}
				last = v
			}
		}
	}
}

// counters answers counters at and beside all bounds.
func counters() []uint64 {
	var l []uint64
	for shift := range 64 {
		for by := -2; by <= 2; by++ {
			l = append(l, uint64(1)<<shift+uint64(by))
		}
	}
	return l
}
