package state

import (
	"sync"

	"clepsydra/api"
)

// row is a list that grows item by item. It is made once, when a place in it
// is first asked for, with all the room that it will need: it never moves, and
// where no item comes no list is made.
type row struct {
	room  func() int
	made  sync.Once
	items []api.Item
}

func (r *row) put(x api.Item) {
	r.made.Do(func() { r.items = make([]api.Item, 0, r.room()) })
	r.items = append(r.items, x)
}

// pick answers those items of the lists that are wanted, in their order.
func pick(wanted func(api.Item) bool, lists ...[]api.Item) []api.Item {
	r := row{room: func() int { return count(wanted, lists) }}
	for _, l := range lists {
		for _, x := range l {
			if wanted(x) {
				r.put(x)
			}
		}
	}
	return r.items
}

func count(wanted func(api.Item) bool, lists [][]api.Item) int {
	n := 0
	for _, l := range lists {
		for _, x := range l {
			if wanted(x) {
				n++
			}
		}
	}
	return n
}

func every(api.Item) bool {
	return true
}
