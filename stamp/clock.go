package stamp

import (
	"sync/atomic"

	"clepsydra/api"
)

// Clock tells the versions of a node: one above the other, each above all that
// it has seen, none with a counter above its lease. One who keeps the lease
// where it lasts, ahead of Renew, may begin a Clock anew from there: it tells
// nothing that the one before it told.
type Clock struct {
	node           int
	counter, lease rising
}

// New answers a Clock behind the counter from. It tells no version ahead of a
// Renew: a lease above from has yet to be kept.
func New(node int, from uint64) (*Clock, api.Errno) {
	if !isNode(node) {
		return nil, api.ErrArg
	}
	if from > api.MaxTime {
		return nil, api.ErrOver
	}
	c := &Clock{node: node}
	c.counter.raise(from)
	c.lease.raise(from)
	return c, api.OK
}

// Next answers a version that was not told before. At 2^40 a longer lease
// would be of no help, so that this is told ahead of the lease's end.
func (c *Clock) Next() (uint64, api.Errno) {
	for {
		at := c.Now()
		if at >= api.MaxTime {
			return 0, api.ErrOver
		}
		if at >= c.Lease() {
			return 0, api.ErrLease
		}
		if c.counter.step(at) {
			return Make(at+1, c.node)
		}
	}
}

// See lets all versions that are still to be told be above v. A counter that
// no version can have counts as the greatest, above which nothing is told.
func (c *Clock) See(v uint64) {
	counter, _ := Split(v)
	c.counter.raise(min(counter, api.MaxTime))
}

// Now answers the counter of the last version that was told or seen.
func (c *Clock) Now() uint64 {
	return c.counter.now()
}

// Lease answers the greatest counter that Next may tell.
func (c *Clock) Lease() uint64 {
	return c.lease.now()
}

// Renew lets Next tell counters up to to, and answers whether it could.
func (c *Clock) Renew(to uint64) bool {
	return to <= api.MaxTime && c.lease.raise(to)
}

// rising is a number that never falls. Where a step of it fails, another has
// moved it up since it was looked at; as it has an end above, each loop that
// tries again comes to its end.
type rising struct {
	number atomic.Uint64
}

func (r *rising) now() uint64 {
	return r.number.Load()
}

// raise answers whether the number was below to, and is now to.
func (r *rising) raise(to uint64) bool {
	for at := r.now(); at < to; at = r.now() {
		if r.number.CompareAndSwap(at, to) {
			return true
		}
	}
	return false
}

// step answers whether the number was still at, and is now one more.
func (r *rising) step(at uint64) bool {
	return r.number.CompareAndSwap(at, at+1)
}
