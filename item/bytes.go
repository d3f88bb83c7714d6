package item

import (
	"sync/atomic"

	"clepsydra/api"
	"clepsydra/num"
)

// most is how many items may be written as one row of bytes.
const most = 2000

// Bytes answers b, how many items l has, and each of them.
func Bytes(b []byte, l []api.Item) ([]byte, api.Errno) {
	if len(l) > most {
		return nil, api.ErrLong
	}
	var t tally
	for _, x := range l {
		t.count(x)
	}
	if !t.allFine() {
		return nil, api.ErrArg
	}
	// What num.Put answers is new memory, so that it may grow in its place.
	own := num.Put(b, uint64(len(l)))
	for _, x := range l {
		own = grow(own, x)
	}
	return own, api.OK
}

// Read answers the items of which b is the Bytes.
func Read(b []byte) ([]api.Item, api.Errno) {
	r := reader{left: b}
	count := r.number()
	if r.e != api.OK {
		return nil, r.e
	}
	if count > most {
		return nil, api.ErrLong
	}
	// No room is made ahead: count is only what the bytes claim.
	var l []api.Item
	var t tally
	for t.sum() < int(count) {
		x := r.item()
		if r.e != api.OK {
			return nil, r.e
		}
		l = append(l, x)
		t.count(x)
	}
	// Only now, since bytes that end too early are told ahead of items that
	// are not Ok.
	if !t.allFine() || len(r.left) > 0 {
		return nil, api.ErrForm
	}
	return l, api.OK
}

// grow writes x behind own's end. It has num.Put begin anew for each number,
// since it would copy all that is handed to it.
func grow(own []byte, x api.Item) []byte {
	own = append(own, byte(x.Series), byte(x.Kind))
	own = append(own, num.Put(nil, x.Time)...)
	own = append(own, num.Put(nil, x.Version)...)
	return append(own, num.Put(nil, num.Sign(x.Value))...)
}

// tally counts items, and those of them that are Ok, by atomic numbers, since
// the one who goes through the items and the one who judges them look at both.
type tally struct {
	all, fine atomic.Int64
}

func (t *tally) count(x api.Item) {
	t.all.Add(1)
	if Ok(x) {
		t.fine.Add(1)
	}
}

func (t *tally) sum() int {
	return int(t.all.Load())
}

func (t *tally) allFine() bool {
	return t.fine.Load() == t.all.Load()
}

// reader takes piece by piece from what is left. Behind its first error it
// answers nothing more, so that the error may be asked for once, at the end.
type reader struct {
	left []byte
	e    api.Errno
}

func (r *reader) item() api.Item {
	var x api.Item
	x.Series = r.one()
	x.Kind = r.one()
	x.Time = r.number()
	x.Version = r.number()
	x.Value = num.Unsign(r.number())
	return x
}

// one takes a byte.
func (r *reader) one() int {
	if r.e != api.OK {
		return 0
	}
	if len(r.left) == 0 {
		r.e = api.ErrTorn
		return 0
	}
	c := r.left[0]
	r.left = r.left[1:]
	return int(c)
}

// number takes what num.Put wrote.
func (r *reader) number() uint64 {
	if r.e != api.OK {
		return 0
	}
	n, size, e := num.Take(r.left)
	r.e = e
	r.left = r.left[size:]
	return n
}
