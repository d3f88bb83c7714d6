package stamp

import (
	"math"
	"math/rand/v2"
	"testing"

	"clepsydra/api"
)

// plain is a second Clock, written by the words of 7.1, sentence by sentence.
type plain struct {
	node           int
	counter, lease uint64
}

func (p *plain) next() (uint64, api.Errno) {
	switch {
	case p.counter == top:
		return 0, api.ErrOver
	case p.counter >= p.lease:
		return 0, api.ErrLease
	}
	p.counter++
	return 8*p.counter + uint64(p.node), api.OK
}

func (p *plain) see(v uint64) {
	seen := v >> 3
	if seen > top {
		seen = top
	}
	if p.counter < seen {
		p.counter = seen
	}
}

func (p *plain) renew(to uint64) bool {
	if to <= p.lease || to > top {
		return false
	}
	p.lease = to
	return true
}

// pair is a Clock and the plain one, that are asked the same.
type pair struct {
	t *testing.T
	c *Clock
	p *plain
}

// begin answers neither where New refuses the numbers.
func begin(t *testing.T, node int, from uint64) *pair {
	t.Helper()
	want := api.OK
	if from > top {
		want = api.ErrOver
	}
	if node < 0 || node > 6 {
		want = api.ErrArg
	}
	c, e := New(node, from)
	if e != want || (c == nil) != (want != api.OK) {
		t.Fatalf("New(%d, %d) is %v, %v", node, from, c, e)
	}
	if c == nil {
		return nil
	}
	return &pair{t, c, &plain{node, from, from}}
}

func (b *pair) next() (uint64, api.Errno) {
	b.t.Helper()
	v, e := b.c.Next()
	if pv, pe := b.p.next(); v != pv || e != pe {
		b.t.Fatalf("Next is %d, %v, not %d, %v", v, e, pv, pe)
	}
	b.look()
	return v, e
}

func (b *pair) see(v uint64) {
	b.t.Helper()
	b.c.See(v)
	b.p.see(v)
	b.look()
}

func (b *pair) renew(to uint64) bool {
	b.t.Helper()
	ok := b.c.Renew(to)
	if ok != b.p.renew(to) {
		b.t.Fatalf("Renew(%d) is %v", to, ok)
	}
	b.look()
	return ok
}

// look asks twice, since asking changes nothing.
func (b *pair) look() {
	b.t.Helper()
	for range 2 {
		if now, lease := b.c.Now(), b.c.Lease(); now != b.p.counter || lease != b.p.lease {
			b.t.Fatalf("counter and lease are %d and %d, not %d and %d", now, lease, b.p.counter, b.p.lease)
		}
	}
}

// 7.1

func TestRowsOfCallsAgainstThePlainClock(t *testing.T) {
	for seed := range uint64(300) {
		r := rand.New(rand.NewPCG(7, seed))
		b := begin(t, r.IntN(7), min(near(r, seed), top))
		for range 400 {
			switch at := b.p.counter; r.IntN(8) {
			case 0:
				b.see(near(r, at)*8 + r.Uint64N(8))
			case 1:
				b.renew(near(r, b.p.lease))
			case 2:
				b.renew(b.p.lease + r.Uint64N(20))
			default:
				b.next()
			}
		}
	}
}

// All short rows of calls, at the beginning, in the middle and at the end.
func TestAllShortRowsOfCalls(t *testing.T) {
	for _, from := range []uint64{0, 1, 1000, top - 2, top - 1, top} {
		for row := range 6 * 6 * 6 * 6 * 6 {
			b := begin(t, 3, from)
			for range 5 {
				call(b, row%6)
				row /= 6
			}
		}
	}
}

func call(b *pair, which int) {
	switch which {
	case 0:
		b.next()
	case 1:
		b.renew(b.p.lease)
	case 2:
		b.renew(b.p.lease + 1)
	case 3:
		b.renew(b.p.counter + 2)
	case 4:
		b.see(b.p.counter*8 + 7)
	case 5:
		b.see(b.p.counter*8 + 8)
	}
}

// near answers a number close to at; at times one close to an end, or any, but
// seldom, since a Clock that has come to its end tells nothing more.
func near(r *rand.Rand, at uint64) uint64 {
	switch n := r.IntN(400); {
	case n == 0:
		return top + 2 - r.Uint64N(5)
	case n == 1:
		return math.MaxUint64 - r.Uint64N(3)
	case n < 6:
		return r.Uint64() >> r.IntN(64)
	case n < 100:
		return at - min(at, r.Uint64N(20))
	default:
		return at + r.Uint64N(20)
	}
}

// 7.3

func FuzzNoCallPanics(f *testing.F) {
	f.Add(2, uint64(0), uint64(10), uint64(8))
	f.Add(7, top, top+1, uint64(0))
	f.Add(-1, top+1, uint64(0), uint64(math.MaxUint64))
	f.Add(6, top-1, top, top*8+7)
	f.Fuzz(func(t *testing.T, node int, from, to, v uint64) {
		for _, x := range []uint64{from, to, v} {
			made, e := Make(x, node)
			counter, place := Split(made)
			if e == api.OK && (counter != x || place != node) || e != api.OK && made != 0 {
				t.Fatalf("Make(%d, %d) is %d, %v", x, node, made, e)
			}
			Split(x)
		}
		b := begin(t, node, from)
		if b == nil {
			return
		}
		b.next()
		b.renew(to)
		b.next()
		b.see(v)
		b.next()
		b.renew(b.p.lease + 1)
		b.next()
	})
}
