package edit

import (
	"sync/atomic"

	"clepsydra/api"
	"clepsydra/frame"
	"clepsydra/num"
)

// editKind is the kind of an Edit's frame.
const editKind = 6

// Put answers b with e's frame behind it.
func Put(b []byte, e api.Edit) ([]byte, api.Errno) {
	if !mayBe(e) {
		return nil, api.ErrArg
	}
	return frame.Put(b, editKind, bodyOf(e))
}

// Read answers the Edit of a frame's body. One that Put would refuse is refused
// here too, so that what is read could be written again.
func Read(body []byte) (api.Edit, api.Errno) {
	drop, size, err := num.Unlist(body, mostFiles)
	if err != api.OK {
		return api.Edit{}, api.ErrForm
	}
	r := reader{left: body[size:]}
	e := api.Edit{Drop: smalls(drop)}
	count := r.take()
	if count > mostFiles {
		// It is only what the bytes claim: no File is read ahead of this look.
		return api.Edit{}, api.ErrForm
	}
	for range count {
		level := small(r.take())
		e.Add = append(e.Add, api.File{Level: level, Num: small(r.take())})
	}
	e.Log = small(r.take())
	e.Floor = r.take()
	e.Cert = r.take()
	e.At = r.take()
	e.Lease = r.take()
	if r.refused || len(r.left) > 0 || !mayBe(e) {
		return api.Edit{}, api.ErrForm
	}
	return e, api.OK
}

// Replay answers the View that the Edits from b's beginning on make of nothing,
// and where they end. A frame that was cut is no fault: so a loss of power leaves
// the last one.
func Replay(b []byte) (v api.View, end int, e api.Errno) {
	var edits atomic.Int64
	for {
		kind, body, next, err := frame.Take(b, end)
		if err == api.ErrTorn {
			break
		}
		if err != api.OK || kind != editKind {
			return api.View{}, 0, api.ErrCorrupt
		}
		w, ok := changed(v, body)
		if !ok {
			return api.View{}, 0, api.ErrCorrupt
		}
		edits.Add(1)
		v, end = w, next
	}
	if edits.Load() == 0 {
		return api.View{}, 0, api.ErrCorrupt
	}
	return v, end, api.OK
}

// changed answers what the Edit of this body makes of v.
func changed(v api.View, body []byte) (api.View, bool) {
	e, err := Read(body)
	if err != api.OK {
		return api.View{}, false
	}
	return Apply(v, e)
}

// mayBe answers whether each number of e may be, and whether there are not too
// many of them. What they would make of a View is Apply's to tell.
func mayBe(e api.Edit) bool {
	if len(e.Drop) > mostFiles {
		return false
	}
	for _, n := range e.Drop {
		if !numOk(n) {
			return false
		}
	}
	return filesOk(e.Add) && (e.Log == 0 || numOk(e.Log)) && versionsOk(e.Floor, e.Cert, e.At, e.Lease)
}

// bodyOf answers the body of e's frame. No number of e is below 0.
func bodyOf(e api.Edit) []byte {
	var drop []uint64
	for _, n := range e.Drop {
		drop = append(drop, uint64(n))
	}
	b := num.List(nil, drop)
	b = num.Put(b, uint64(len(e.Add)))
	for _, f := range e.Add {
		b = num.Put(b, uint64(f.Level))
		b = num.Put(b, uint64(f.Num))
	}
	for _, n := range []uint64{uint64(e.Log), e.Floor, e.Cert, e.At, e.Lease} {
		b = num.Put(b, n)
	}
	return b
}

// reader takes number by number, and keeps in mind whether one was refused.
type reader struct {
	left    []byte
	refused bool
}

// take answers the next number, and 0 if there is none.
func (r *reader) take() uint64 {
	n, size, e := num.Take(r.left)
	if e != api.OK {
		r.refused = true
		return 0
	}
	r.left = r.left[size:]
	return n
}

// small answers n, and -1, which no number of an Edit may be, where n is above
// all that may be: so no number wraps to one that may.
func small(n uint64) int {
	if n > mostNum {
		return -1
	}
	return int(n)
}

func smalls(l []uint64) []int {
	var own []int
	for _, n := range l {
		own = append(own, small(n))
	}
	return own
}
