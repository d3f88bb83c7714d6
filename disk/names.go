package disk

import "strings"

// file is bytes that grow at their end; so many of them, from the first on,
// last.
type file struct {
	bytes []byte
	lasts int
}

// names tells for each name the number of the file it leads to. There is no
// file 0.
type names map[string]int

// What may be done to names.
const (
	create = iota
	rename
	remove
)

// change is one thing that is done to names: to is set for a rename, file for
// a create.
type change struct {
	kind     int
	name, to string
	file     int
}

// copy answers another file with the same bytes.
func (f *file) copy() *file {
	return &file{bytes: append([]byte(nil), f.bytes...), lasts: f.lasts}
}

// change does c to the names of now, and notes it till they last. The texts of
// c are the caller's, and may be pieces of greater ones: they are not kept.
func (d *Disk) change(c change) {
	c.name, c.to = strings.Clone(c.name), strings.Clone(c.to)
	d.names.do(c)
	d.since = append(d.since, c)
}

// do does c. At a Crash it may meet names that it did not meet the first time.
func (n names) do(c change) {
	switch c.kind {
	case create:
		n[c.name] = c.file
	case rename:
		if num, ok := n[c.name]; ok {
			delete(n, c.name)
			n[c.to] = num
		}
	case remove:
		delete(n, c.name)
	}
}
