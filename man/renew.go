package man

import (
	"slices"

	"clepsydra/api"
	"clepsydra/disk"
	"clepsydra/edit"
)

// renew makes man.n, a file of one Edit that makes all of the View, the one that
// counts. It lasts ahead of current's leading to it, so that current leads to a
// whole one whenever power is lost.
func (m *Manifest) renew(n int) api.Errno {
	whole, e := edit.Put(nil, edit.Whole(m.view))
	if e != api.OK {
		return e
	}
	if e := lay(m.disk, Name(man, n), whole); e != api.OK {
		return e
	}
	if e := m.prepare(n); e != api.OK {
		return e
	}
	if e := m.disk.Rename(fresh, current); e != api.OK {
		return e
	}
	// The new file counts from here on, though nobody knows which of the two does
	// behind a loss of power, till the names last.
	m.number, m.count = n, 1
	if e := m.disk.SyncDir(); e != api.OK {
		m.breaks()
		return e
	}
	m.sweep()
	return api.OK
}

// prepare lays what becomes current beside it. One that is there already is of a
// renewal that did not come to its end.
func (m *Manifest) prepare(n int) api.Errno {
	lead, e := leading(n)
	if e != api.OK {
		return e
	}
	if slices.Contains(m.disk.List(), fresh) {
		if e := m.disk.Remove(fresh); e != api.OK {
			return e
		}
	}
	if e := lay(m.disk, fresh, lead); e != api.OK {
		return e
	}
	return m.disk.SyncDir()
}

// lay makes a file of these bytes, which last as far as its name does.
func lay(d *disk.Disk, name string, b []byte) api.Errno {
	if e := d.Create(name); e != api.OK {
		return e
	}
	if e := d.Append(name, b); e != api.OK {
		return e
	}
	return d.Sync(name)
}

// next answers the number of the file that is made next. It is above that of each
// file that is there, also of those that never counted.
func (m *Manifest) next() int {
	most := 0
	for _, name := range m.disk.List() {
		// A name of another kind has the number 0.
		n, _ := Number(name, man)
		most = max(most, n)
	}
	return most + 1
}

// sweep takes away the files that don't count any more. One that stays does no
// harm, so that nothing is told of it.
func (m *Manifest) sweep() {
	for _, name := range m.disk.List() {
		if n, ok := Number(name, man); ok && n != m.number {
			m.disk.Remove(name)
		}
	}
}
