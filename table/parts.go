package table

import (
	"clepsydra/api"
	"clepsydra/block"
	"clepsydra/bloom"
	"clepsydra/frame"
	"clepsydra/item"
	"clepsydra/num"
)

const (
	// mostItems is how many items a table may have, rowItems how many a block
	// of it.
	mostItems = 2000
	rowItems  = 20
	// keyBits is how many bits the Filter has for each key.
	keyBits = 10
)

// The kinds of the frames behind the blocks.
const (
	kindIndex  = 3
	kindFilter = 4
	kindEnd    = 5
)

// parts is what a table's bytes are made of.
type parts struct {
	size          int
	blocks, index []byte
	filter        *bloom.Filter
}

// check answers why there is no table of l.
func check(l []api.Item) api.Errno {
	if len(l) > mostItems {
		return api.ErrLong
	}
	for i, x := range l {
		if !item.Ok(x) || i > 0 && !item.Less(l[i-1], x) {
			return api.ErrArg
		}
	}
	return api.OK
}

// lay answers the parts of the table of l. Of a list that check lets pass none
// of the layers below refuses anything.
func lay(l []api.Item) parts {
	p := parts{size: len(l)}
	for _, row := range block.Cut(l, rowItems) {
		p.index = num.Put(p.index, uint64(len(p.blocks)))
		p.index, _ = item.Bytes(p.index, row[:1])
		// block.Put begins anew, since it would copy all that is handed to it.
		b, _ := block.Put(nil, row)
		p.blocks = append(p.blocks, b...)
	}
	p.filter, _ = bloom.New(len(l), keyBits)
	for _, x := range l {
		p.filter.Add(item.Key(x))
	}
	return p
}

// bytes answers the parts one behind the other, and at the end where the index
// and the Filter stand.
func (p parts) bytes() []byte {
	end := num.Put(nil, uint64(len(p.blocks)))
	b, _ := frame.Put(p.blocks, kindIndex, p.index)
	end = num.Put(end, uint64(len(b)))
	b, _ = frame.Put(b, kindFilter, p.filter.Bytes())
	b, _ = frame.Put(b, kindEnd, num.Put(end, uint64(p.size)))
	return b
}
