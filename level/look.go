package level

import (
	"math/bits"
	"slices"
	"sync"

	"clepsydra/api"
)

const (
	// levels is how many there are. The last one is never over: from there nothing
	// goes further down.
	levels = 4
	// manyFiles is how many files level 0 has at least where it is over.
	manyFiles = 4
	// mostOfOne and mostOfTwo are how many items levels 1 and 2 have at most where
	// they are not over.
	mostOfOne = 200
	mostOfTwo = 2000
)

// look is what stands on which level. The levels are looked at once, when one is
// first asked for: the one who tells what is over and the one who takes what goes
// down look at the same.
type look struct {
	files  []api.Held
	once   sync.Once
	places [levels][]int
}

// on answers where the files of level n stand in the list, rising.
func (l *look) on(n int) []int {
	l.once.Do(func() {
		for at, f := range l.files {
			if f.Level >= 0 && f.Level < levels {
				l.places[f.Level] = append(l.places[f.Level], at)
			}
		}
	})
	return l.places[n]
}

func (l *look) over(n int) bool {
	switch n {
	case 0:
		return len(l.on(n)) >= manyFiles
	case 1:
		return l.items(n).above(mostOfOne)
	case 2:
		return l.items(n).above(mostOfTwo)
	}
	return false
}

// lowest answers the lowest level that is over, and false if none is.
func (l *look) lowest() (int, bool) {
	for n := range levels {
		if l.over(n) {
			return n, true
		}
	}
	return 0, false
}

// down answers where those files stand that go down from level n, which is over.
func (l *look) down(n int) []int {
	places := l.on(n)
	if n > 0 {
		return places[:1]
	}
	return places
}

// touching answers where those files of level n stand that Touch one of these.
func (l *look) touching(n int, these []int) []int {
	var places []int
	for _, at := range l.on(n) {
		touches := func(other int) bool { return Touch(l.files[at], l.files[other]) }
		if slices.ContainsFunc(these, touches) {
			places = append(places, at)
		}
	}
	return places
}

func (l *look) items(n int) tally {
	var t tally
	for _, at := range l.on(n) {
		t.add(l.files[at].Len)
	}
	return t
}

// tally is a sum of ints. An int would not do: two files can make it wrap, and a
// level that has far too much would seem to have less than none. It is a number of
// 128 bits, the highest of which tells that it is below 0.
type tally struct{ high, low uint64 }

func (t *tally) add(n int) {
	low, carry := bits.Add64(t.low, uint64(n), 0)
	// What an int below 0 has ahead of its 64 bits are ones.
	high, _ := bits.Add64(t.high, uint64(int64(n)>>63), carry)
	t.high, t.low = high, low
}

func (t tally) above(n uint64) bool {
	return int64(t.high) > 0 || t.high == 0 && t.low > n
}
