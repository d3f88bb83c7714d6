package store

import (
	"slices"

	"clepsydra/api"
	"clepsydra/disk"
	"clepsydra/edit"
	"clepsydra/frame"
	"clepsydra/log"
	"clepsydra/man"
	"clepsydra/mem"
	"clepsydra/num"
	"clepsydra/state"
)

// Open answers the Store of d: a new one, if there is none on it.
func Open(d *disk.Disk) (*Store, api.Errno) {
	if d == nil {
		return nil, api.ErrArg
	}
	if d.Dead() {
		return nil, api.ErrDead
	}
	s := &Store{disk: d, mem: mem.New()}
	e := api.OK
	if isNew(d) {
		e = s.begin()
	} else {
		e = s.resume()
	}
	if e != api.OK {
		return nil, e
	}
	return s, api.OK
}

// isNew tells whether there is no Store, nor anything but what the beginning of one
// leaves that did not come to its end.
func isNew(d *disk.Disk) bool {
	return !slices.ContainsFunc(d.List(), func(name string) bool {
		return isOwn(name) && !isBegun(d, name)
	})
}

// isBegun tells whether this file may be there ahead of current.
func isBegun(d *disk.Disk, name string) bool {
	switch name {
	case fresh, man.Name(manKind, 1):
		return true
	case man.Name(logKind, 1):
		b, e := d.Read(name)
		return e == api.OK && len(b) == 0
	}
	return false
}

// begin makes a Store where there is none.
func (s *Store) begin() api.Errno {
	for _, name := range s.disk.List() {
		if !isOwn(name) {
			continue
		}
		if e := s.disk.Remove(name); e != api.OK {
			return e
		}
	}
	g, e := layLog(s.disk, 1, nil)
	if e != api.OK {
		return e
	}
	m, e := man.New(s.disk, api.View{Log: 1})
	if e != api.OK {
		return e
	}
	s.log, s.man = g, m
	return api.OK
}

// resume goes on with the Store that is there. All that may be corrupt is looked at
// ahead of man.Open, which may lay the manifest anew.
func (s *Store) resume() api.Errno {
	v, ok := look(s.disk)
	if !ok || !s.readTabs(v.Files) {
		return api.ErrCorrupt
	}
	g, batches, whole, e := log.Open(s.disk, man.Name(logKind, v.Log))
	if e != api.OK {
		return api.ErrCorrupt
	}
	if s.man, e = man.Open(s.disk); e != api.OK {
		return e
	}
	s.count()
	s.log = g
	s.replay(batches)
	if !whole {
		if e := s.relay(batches); e != api.OK {
			return e
		}
	}
	s.sweep()
	return api.OK
}

// look answers the View of the manifest that current leads to, and false if there
// is none. Bytes of current that lead somewhere though man did not write them are
// refused by man.Open, which is ahead of its first change, too.
func look(d *disk.Disk) (api.View, bool) {
	b, e := d.Read(current)
	if e != api.OK {
		return api.View{}, false
	}
	_, body, _, e := frame.Take(b, 0)
	if e != api.OK {
		return api.View{}, false
	}
	n, _, e := num.Take(body)
	if e != api.OK || n > mostNumber {
		return api.View{}, false
	}
	if b, e = d.Read(man.Name(manKind, int(n))); e != api.OK {
		return api.View{}, false
	}
	v, _, e := edit.Replay(b)
	return v, e == api.OK
}

// readTabs takes these Files, and answers false if one of them is not there, or is
// no Table.
func (s *Store) readTabs(files []api.File) bool {
	for _, f := range files {
		t, ok := readTab(s.disk, f)
		if !ok {
			return false
		}
		s.tabs = append(s.tabs, t)
	}
	return true
}

// replay takes the batches of the log behind what the tables have.
func (s *Store) replay(batches [][]api.Item) {
	for _, l := range batches {
		s.mem.Apply(l)
	}
	s.become(state.Of(slices.Concat(slices.Concat(rows(s.tabs)...), slices.Concat(batches...))))
}

// relay lays the batches of a torn log in a new one, since a torn one takes no more.
func (s *Store) relay(batches [][]api.Item) api.Errno {
	elder, e := s.turn(batches, nil)
	if e != api.OK {
		return e
	}
	return s.disk.Remove(elder)
}

// sweep takes away what a change left that did not come to its end. What stays does
// no harm, so that nothing is told of it.
func (s *Store) sweep() {
	v := s.man.View()
	named := []string{current, s.man.Name(), man.Name(logKind, v.Log)}
	for _, f := range v.Files {
		named = append(named, man.Name(tabKind, f.Num))
	}
	for _, name := range s.disk.List() {
		if isOwn(name) && !slices.Contains(named, name) {
			s.disk.Remove(name)
		}
	}
}
