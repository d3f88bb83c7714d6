package merge

import (
	"slices"
	"sort"
	"sync"

	"clepsydra/api"
	"clepsydra/item"
)

// Iter tells the items of several rows one by one, as one row.
type Iter struct {
	rows  [][]api.Item
	once  sync.Once
	items []api.Item
	next  int
}

// New answers an Iter that stands ahead of the first item.
func New(rows [][]api.Item) *Iter {
	own := make([][]api.Item, len(rows))
	for i, row := range rows {
		own[i] = slices.Clone(row)
	}
	return &Iter{rows: own}
}

// open answers the row of all items. It is made once, when the first one asks,
// and the rows are let go: nobody needs them any more.
func (t *Iter) open() []api.Item {
	t.once.Do(func() { t.items, t.rows = Rows(t.rows), nil })
	return t.items
}

// Next answers the next item.
func (t *Iter) Next() (api.Item, bool) {
	l := t.open()
	if t.next == len(l) {
		return api.Item{}, false
	}
	x := l[t.next]
	t.next++
	return x, true
}

// Seek has the first item that does not stand ahead of x's place be the next
// one, wherever the Iter stood.
func (t *Iter) Seek(x api.Item) {
	l := t.open()
	t.next = sort.Search(len(l), func(i int) bool { return !item.Less(l[i], x) })
}
