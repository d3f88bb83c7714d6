package store

import (
	"slices"

	"clepsydra/api"
	"clepsydra/block"
	"clepsydra/level"
	"clepsydra/man"
	"clepsydra/mem"
	"clepsydra/merge"
	"clepsydra/state"
)

const (
	// mostFlushed is how many files there may be behind a Flush, mostKept how many a
	// Step leaves to their levels.
	mostFlushed = 30
	mostKept    = 20
	// tabItems is how many items a table has that comes of merging.
	tabItems = 200
	// bottom is the level from which nothing goes further down.
	bottom = 3
)

// Flush writes what the log has as a table, and begins a new log.
func (s *Store) Flush() api.Errno {
	if s.readOnly.Load() {
		return api.ErrReadOnly
	}
	if s.log.Count() == 0 {
		return api.OK
	}
	if len(s.tabs) >= mostFlushed {
		return api.ErrMany
	}
	var one [][]api.Item
	if l := those(s.mem.Items(), s.items); len(l) > 0 {
		one = append(one, l)
	}
	made, e := layTabs(s.disk, one, 0)
	if e != api.OK {
		return e
	}
	elder, e := s.turn(nil, made)
	if e != api.OK {
		return e
	}
	s.mem = mem.New()
	// The change is done: where the Remove fails, the next Open takes it away.
	s.disk.Remove(elder)
	return api.OK
}

// turn begins a new log with these batches, and lets it, and the tables that were
// made, count from here on. It answers the name of the elder log, which does no
// more.
func (s *Store) turn(batches [][]api.Item, made []tab) (elder string, e api.Errno) {
	elder = man.Name(logKind, s.man.View().Log)
	n, e := next(s.disk)
	if e != api.OK {
		return "", e
	}
	g, e := layLog(s.disk, n, batches)
	if e != api.OK {
		return "", e
	}
	if e := s.record(api.Edit{Add: files(made), Log: n}); e != api.OK {
		return "", e
	}
	s.log = g
	s.tabs = append(s.tabs, made...)
	return elder, api.OK
}

// record lets e last behind the names of the files of which it tells.
func (s *Store) record(e api.Edit) api.Errno {
	if err := s.disk.SyncDir(); err != api.OK {
		return err
	}
	return s.save(e)
}

// Step merges some tables, if there are too many of them, or if a level has too
// much: did it?
func (s *Store) Step() (bool, api.Errno) {
	if s.readOnly.Load() {
		return false, api.ErrReadOnly
	}
	in, to, ok := s.pick()
	if !ok {
		return false, api.OK
	}
	goes, stays := s.part(in)
	// What those that stay hide, or win over, goes for good.
	all := slices.Concat(rows(goes), rows(stays))
	l := those(merge.Rows(rows(goes)), state.Of(slices.Concat(all...)))
	if e := s.replace(goes, stays, l, to); e != api.OK {
		return false, e
	}
	return true, api.OK
}

// pick answers the Nums of the tables that are merged next, and the level to which
// they go; false if none are.
func (s *Store) pick() (in []int, to int, ok bool) {
	if len(s.tabs) > mostKept {
		return nums(s.tabs), bottom, true
	}
	var held []api.Held
	for _, t := range s.tabs {
		held = append(held, t.held())
	}
	return level.Pick(held)
}

// part answers the tabs of these Nums, and the others.
func (s *Store) part(in []int) (goes, stays []tab) {
	for _, t := range s.tabs {
		if slices.Contains(in, t.Num) {
			goes = append(goes, t)
		} else {
			stays = append(stays, t)
		}
	}
	return goes, stays
}

// replace lets tables of l, of level to, take the place of those that go. Of an
// elder one that can't be Removed nothing is told: the next Open takes it away.
func (s *Store) replace(goes, stays []tab, l []api.Item, to int) api.Errno {
	made, e := layTabs(s.disk, slices.Collect(slices.Chunk(l, tabItems)), to)
	if e != api.OK {
		return e
	}
	if e := s.record(api.Edit{Drop: nums(goes), Add: files(made)}); e != api.OK {
		return e
	}
	s.tabs = append(stays, made...)
	for _, t := range goes {
		s.disk.Remove(man.Name(tabKind, t.Num))
	}
	return api.OK
}

// Purge takes away the deletes whose version is at most v, for good: what they hid
// is in no file any more.
func (s *Store) Purge(v uint64) api.Errno {
	if e := s.Flush(); e != api.OK {
		return e
	}
	left := state.Purge(s.items, v)
	if len(left) == len(s.items) {
		return api.OK
	}
	l := merge.Without(merge.Rows(rows(s.tabs)), v)
	if e := s.replace(s.tabs, nil, l, bottom); e != api.OK {
		return e
	}
	s.become(left)
	return api.OK
}

// those answers the items of l that hold too. Both rise; l is used up.
func those(l, hold []api.Item) []api.Item {
	return slices.DeleteFunc(l, func(x api.Item) bool {
		y, ok := block.Find(hold, x)
		return !ok || y != x
	})
}
