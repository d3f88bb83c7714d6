package tree

import (
	"encoding/binary"
	"hash/fnv"
	"math"
	"math/rand/v2"
	"slices"
	"testing"

	"clepsydra/api"
)

func sample(series int, time, version uint64, value int64) api.Item {
	return api.Item{Series: series, Kind: api.ISample, Time: time, Version: version, Value: value}
}

func tomb(series int, version uint64) api.Item {
	return api.Item{Series: series, Kind: api.ITomb, Version: version}
}

func list(l ...api.Item) []api.Item { return l }

// many answers n samples of a Series, no two of which are at one place.
func many(series, n int) []api.Item {
	l := make([]api.Item, n)
	for i := range l {
		l[i] = sample(series, uint64(i), 1, 1)
	}
	return l
}

// second is a tree as the chapter tells it, level by level.
type second [9][]uint64

// secondOf works a tree out by the words of 19.1, and by no package of the
// project.
func secondOf(l []api.Item) *second {
	var x second
	for series := range 256 {
		x[0] = append(x[0], leafOf(l, series))
	}
	for level := 1; level <= 8; level++ {
		below := x[level-1]
		for i := 0; i < len(below); i += 2 {
			x[level] = append(x[level], mixOf(below[i], below[i+1]))
		}
	}
	return &x
}

func leafOf(l []api.Item, series int) uint64 {
	var b []byte
	count := 0
	for _, x := range l {
		if x.Series != series {
			continue
		}
		if !fine(x) {
			return 0
		}
		count++
		b = append(b, byte(x.Series), byte(x.Kind))
		b = binary.AppendUvarint(b, x.Time)
		b = binary.AppendUvarint(b, x.Version)
		b = binary.AppendVarint(b, x.Value)
	}
	if count > 2000 {
		return 0
	}
	return hashOf(append(binary.AppendUvarint(nil, uint64(count)), b...))
}

func fine(x api.Item) bool {
	if x.Series < 0 || x.Series > 255 || x.Version < 1 || x.Version > 1<<48 {
		return false
	}
	switch x.Kind {
	case 1:
		return x.Time == 0 && x.Value == 0
	case 2:
		return x.Time <= 1<<40
	}
	return false
}

func hashOf(b []byte) uint64 {
	h := fnv.New64a()
	h.Write(b)
	return h.Sum64()
}

func mixOf(a, b uint64) uint64 {
	return hashOf(binary.BigEndian.AppendUint64(binary.BigEndian.AppendUint64(nil, a), b))
}

// apart answers the Series whose leaves differ, and all sums above them.
func (x *second) apart(y *second) []int {
	var l []int
	for series := range 256 {
		differ := true
		for level := range 9 {
			differ = differ && x[level][series>>level] != y[level][series>>level]
		}
		if differ {
			l = append(l, series)
		}
	}
	return l
}

// spare answers l with room behind it, and a look at whether that room or l was
// changed.
func spare(l []api.Item) (own []api.Item, same func() bool) {
	all := append(slices.Clone(l), tomb(8, 8), api.Item{}, sample(7, 7, 7, 7))
	was := slices.Clone(all)
	return all[:len(l)], func() bool { return slices.Equal(all, was) }
}

// of asks Of, fails where l or the room behind it is changed, and spoils both
// ahead of any sum, so that one who kept them would tell another tree.
func of(t *testing.T, l []api.Item) *Tree {
	t.Helper()
	in, same := spare(l)
	x := Of(in)
	if x == nil {
		t.Fatal("no tree")
	}
	if !same() {
		t.Fatal("Of changed what it was given")
	}
	in = in[:cap(in)]
	for i := range in {
		in[i] = sample(i%256, 9, 9, 9)
	}
	return x
}

// differing asks Differ, and spoils its answer and the room behind it.
func differing(a, b *Tree) []int {
	got := Differ(a, b)
	told := slices.Clone(got)
	got = got[:cap(got)]
	for i := range got {
		got[i] = -9
	}
	return told
}

// want fails where x is not the tree that the second hand makes of l.
func want(t *testing.T, x *Tree, l []api.Item) {
	t.Helper()
	y := secondOf(l)
	for level, row := range y {
		for i, told := range row {
			if got := x.Node(level, i); got != told {
				t.Fatalf("Node(%d, %d) = %x, want %x", level, i, got, told)
			}
		}
	}
	for series, told := range y[0] {
		if got := x.Leaf(series); got != told {
			t.Fatalf("Leaf(%d) = %x, want %x", series, got, told)
		}
	}
	if got := x.Root(); got != y[8][0] {
		t.Fatalf("Root = %x, want %x", got, y[8][0])
	}
}

// wantApart fails where Differ and Same of the trees of a and b do not tell these
// Series, whichever of the two comes first.
func wantApart(t *testing.T, why string, a, b []api.Item, told ...int) {
	t.Helper()
	x, y := of(t, a), of(t, b)
	for range 2 {
		if got := differing(x, y); !slices.Equal(got, told) {
			t.Errorf("%s: Differ = %v, want %v", why, got, told)
		}
		if got := Same(x, y); got != (len(told) == 0) {
			t.Errorf("%s: Same = %v", why, got)
		}
		x, y = y, x
	}
	if got := secondOf(a).apart(secondOf(b)); !slices.Equal(got, told) {
		t.Errorf("%s: the second hand tells %v, want %v", why, got, told)
	}
}

// odd answers items of this Series that are not Ok, each for a reason of its own.
func odd(series int) []api.Item {
	return list(
		api.Item{Series: series},
		api.Item{Series: series, Version: 5},
		api.Item{Series: series, Kind: 3, Version: 5},
		api.Item{Series: series, Kind: -1, Version: 5},
		api.Item{Series: series, Kind: 257, Version: 5},
		api.Item{Series: series, Kind: math.MaxInt, Version: 5},
		api.Item{Series: series, Kind: math.MinInt, Version: 5},
		sample(series, 1, 0, 1), sample(series, 1, 1<<48+1, 1), sample(series, 1, math.MaxUint64, 1),
		sample(series, 1<<40+1, 5, 1), sample(series, math.MaxUint64, 5, 1),
		tomb(series, 0), tomb(series, 1<<48+1), tomb(series, math.MaxUint64),
		api.Item{Series: series, Kind: 1, Time: 1, Version: 5},
		api.Item{Series: series, Kind: 1, Version: 5, Value: 1},
		api.Item{Series: series, Kind: 1, Version: 5, Value: math.MinInt64},
	)
}

// outside answers Series that are none.
func outside() []int {
	return []int{-1, -2, -256, 256, 257, 511, 512, 1 << 32, -1 << 32, 1<<32 + 3, math.MaxInt, math.MinInt, math.MaxInt - 252}
}

// anyItem answers an item that r picks, at few places.
func anyItem(r *rand.Rand) api.Item {
	series := []int{0, 1, 2, 3, 127, 128, 254, 255, r.IntN(256)}[r.IntN(9)]
	version := []uint64{1, 2, 3, 1<<48 - 1, 1 << 48}[r.IntN(5)]
	if r.IntN(5) == 0 {
		return tomb(series, version)
	}
	time := []uint64{0, 1, 300, 1 << 40}[r.IntN(4)]
	return sample(series, time, version, []int64{math.MinInt64, -1, 0, 1, math.MaxInt64}[r.IntN(5)])
}

// anyList answers up to 40 items, now and then one that may not be.
func anyList(r *rand.Rand) []api.Item {
	var l []api.Item
	for range r.IntN(41) {
		x := anyItem(r)
		switch r.IntN(60) {
		case 0:
			x.Series = outside()[r.IntN(len(outside()))]
		case 1:
			bad := odd(x.Series)
			x = bad[r.IntN(len(bad))]
		}
		l = append(l, x)
	}
	return l
}
