package block

import (
	"sync"

	"clepsydra/api"
	"clepsydra/item"
)

// page is the body of a frame that may be a block's. It is read once, when the
// first one asks for its items: the one who judges it and the one who tells
// them look at the same.
type page struct {
	body  []byte
	once  sync.Once
	items []api.Item
}

// read answers the items, none where the body is not item.Bytes of some: a
// block without items may not be either.
func (p *page) read() []api.Item {
	p.once.Do(func() { p.items, _ = item.Read(p.body) })
	return p.items
}

// fine tells whether the body is one that Put writes. Bytes that item.Read
// takes can't have been written otherwise, so that its items tell.
func (p *page) fine() bool {
	return fits(p.read())
}
