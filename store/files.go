package store

import (
	"clepsydra/api"
	"clepsydra/disk"
	"clepsydra/item"
	"clepsydra/log"
	"clepsydra/man"
	"clepsydra/table"
)

const (
	// current leads to the manifest, fresh is what becomes it.
	current = "current"
	fresh   = "current.tmp"
	// The kinds of files that man.Name and man.Number know.
	logKind = "log"
	tabKind = "tab"
	manKind = "man"
	// mostNumber is the greatest number of a file.
	mostNumber = 1 << 30
)

// tab is a File with what it has.
type tab struct {
	api.File
	table *table.Table
}

// held answers the tab as package level looks at it.
func (t tab) held() api.Held {
	h := api.Held{Num: t.Num, Level: t.Level, Len: t.table.Len()}
	if first, ok := t.table.First(); ok {
		h.First = item.Key(first)
	}
	if last, ok := t.table.Last(); ok {
		h.Last = item.Key(last)
	}
	return h
}

func rows(l []tab) [][]api.Item {
	var all [][]api.Item
	for _, t := range l {
		all = append(all, t.table.All())
	}
	return all
}

func files(l []tab) []api.File {
	var all []api.File
	for _, t := range l {
		all = append(all, t.File)
	}
	return all
}

func nums(l []tab) []int {
	var all []int
	for _, t := range l {
		all = append(all, t.Num)
	}
	return all
}

// isOwn tells whether a file of this name is a Store's: others stay as they are.
func isOwn(name string) bool {
	if name == current || name == fresh {
		return true
	}
	for _, kind := range [...]string{logKind, tabKind, manKind} {
		if _, ok := man.Number(name, kind); ok {
			return true
		}
	}
	return false
}

// next answers the number of the log or table that is made next. It is above that
// of each one that is there, also of those that never counted.
func next(d *disk.Disk) (int, api.Errno) {
	most := 0
	for _, name := range d.List() {
		// A name of another kind has the number 0.
		l, _ := man.Number(name, logKind)
		t, _ := man.Number(name, tabKind)
		most = max(most, l, t)
	}
	if most >= mostNumber {
		return 0, api.ErrMany
	}
	return most + 1, api.OK
}

// layLog makes the log of this number, with these batches. It lasts as far as its
// name does.
func layLog(d *disk.Disk, n int, batches [][]api.Item) (*log.Log, api.Errno) {
	g, e := log.New(d, man.Name(logKind, n))
	if e != api.OK {
		return nil, e
	}
	for _, l := range batches {
		if e := g.Put(l); e != api.OK {
			return nil, e
		}
	}
	if e := g.Sync(); e != api.OK {
		return nil, e
	}
	return g, api.OK
}

// layTabs makes a table of this level of each list. They last as far as their names
// do.
func layTabs(d *disk.Disk, lists [][]api.Item, level int) ([]tab, api.Errno) {
	var made []tab
	for _, l := range lists {
		t, e := layTab(d, l, level)
		if e != api.OK {
			return nil, e
		}
		made = append(made, t)
	}
	return made, api.OK
}

func layTab(d *disk.Disk, l []api.Item, level int) (tab, api.Errno) {
	b, e := table.Make(l)
	if e != api.OK {
		return tab{}, e
	}
	n, e := next(d)
	if e != api.OK {
		return tab{}, e
	}
	name := man.Name(tabKind, n)
	if e := d.Create(name); e != api.OK {
		return tab{}, e
	}
	if e := d.Append(name, b); e != api.OK {
		return tab{}, e
	}
	if e := d.Sync(name); e != api.OK {
		return tab{}, e
	}
	t, e := table.Read(b)
	return tab{api.File{Level: level, Num: n}, t}, e
}

// readTab answers the tab of f, and false if its file is not there, or is no Table.
func readTab(d *disk.Disk, f api.File) (tab, bool) {
	b, e := d.Read(man.Name(tabKind, f.Num))
	if e != api.OK {
		return tab{}, false
	}
	t, e := table.Read(b)
	return tab{f, t}, e == api.OK
}
