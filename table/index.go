package table

import (
	"sort"
	"sync"

	"clepsydra/api"
	"clepsydra/item"
	"clepsydra/num"
)

// mark tells the place of a block, and its first item.
type mark struct {
	place int
	first api.Item
}

// index is the body of the frame that leads to the blocks. It is opened once,
// when the first one asks for its marks.
type index struct {
	body  []byte
	once  sync.Once
	marks []mark
}

// open answers the marks of all blocks. The body is let go: nobody needs it
// any more.
func (x *index) open() []mark {
	x.once.Do(func() { x.marks, x.body = decode(x.body), nil })
	return x.marks
}

// upto answers how many blocks begin at or ahead of y's place. The last of them
// is the only one that may have an item there.
func (x *index) upto(y api.Item) int {
	l := x.open()
	return sort.Search(len(l), func(i int) bool { return item.Less(y, l[i].first) })
}

// decode reads a body that lay wrote, of which there is nothing to refuse.
func decode(body []byte) []mark {
	var l []mark
	for len(body) > 0 {
		place, size, _ := num.Take(body)
		end := size + width(body[size:])
		first, _ := item.Read(body[size:end])
		l = append(l, mark{place: int(place), first: first[0]})
		body = body[end:]
	}
	return l
}

// width answers how many bytes item.Bytes of one item has, which b begins with.
// item.Read must be told: it reads all that it is given.
func width(b []byte) int {
	// How many there are, Series and Kind are a byte each.
	at := 3
	for range 3 {
		_, size, _ := num.Take(b[at:])
		at += size
	}
	return at
}
