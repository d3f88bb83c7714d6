package skip

import (
	"sync/atomic"

	"clepsydra/api"
	"clepsydra/item"
)

// top is the greatest height.
const top = 6

func isHeight(h int) bool {
	return h >= 1 && h <= top
}

// tower holds an item, and has a link to the next tower at each of its levels.
// What it holds may be another item later, but always one of the same place, so
// that the order of towers never changes.
type tower struct {
	held  atomic.Pointer[api.Item]
	links []atomic.Pointer[tower]
}

func build(x api.Item, height int) *tower {
	t := &tower{links: make([]atomic.Pointer[tower], height)}
	t.held.Store(&x)
	return t
}

func (t *tower) item() api.Item {
	return *t.held.Load()
}

func (t *tower) next(h int) *tower {
	return t.links[h-1].Load()
}

// take has t hold x, if x wins against what it holds, and answers whether it
// did. Where that fails, one that wins against what t held came in between.
func (t *tower) take(x api.Item) bool {
	for held := t.held.Load(); item.Wins(x, *held); held = t.held.Load() {
		if t.held.CompareAndSwap(held, &x) {
			return true
		}
	}
	return false
}

// walk goes along the level h from t, as far as towers stand ahead of x. It
// answers the last of these and the one that follows.
func (t *tower) walk(x api.Item, h int) (ahead, behind *tower) {
	ahead, behind = t, t.next(h)
	for behind != nil && item.Less(behind.item(), x) {
		ahead, behind = behind, behind.next(h)
	}
	return ahead, behind
}
