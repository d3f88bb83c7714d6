package disk

import (
	"maps"
	"slices"
)

// numbers are handed out one by one.
type numbers []int

// Crash loses of what does not last what keep says; the rest lasts then.
func (d *Disk) Crash(keep []int) {
	n := numbers(keep)
	for _, num := range slices.Sorted(maps.Keys(d.files)) {
		d.files[num].crash(&n)
	}
	for _, c := range d.since {
		if k, ok := n.next(); !ok || k%2 == 0 {
			d.lasting.do(c)
		}
	}
	d.names = d.lasting
	d.settle()
	d.stop, d.fail, d.dead = 0, 0, false
}

// crash loses what the next number says of the bytes that do not last. A file
// all of whose bytes last takes no number.
func (f *file) crash(n *numbers) {
	loose := len(f.bytes) - f.lasts
	if loose > 0 {
		if k, ok := n.next(); ok {
			loose = modulo(k, loose+1)
		}
	}
	f.lasts += loose
	f.bytes = f.bytes[:f.lasts]
}

// next takes the first number off, and answers false if there is none.
func (n *numbers) next() (int, bool) {
	if len(*n) == 0 {
		return 0, false
	}
	k := (*n)[0]
	*n = (*n)[1:]
	return k, true
}

// modulo answers k modulo m, which is 0 or more also where k is below 0.
func modulo(k, m int) int {
	return (k%m + m) % m
}
