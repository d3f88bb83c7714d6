package tree

import (
	"encoding/binary"
	"math"
	"math/rand/v2"
	"slices"
	"testing"

	"clepsydra/api"
)

// 19.1: held against a tree worked out by its words

func TestTreesByAnotherHand(t *testing.T) {
	r := rand.New(rand.NewPCG(19, 3))
	before := []api.Item(nil)
	for range 300 {
		l := anyList(r)
		if r.IntN(2) == 0 { // near the one before
			l = slices.Clone(before)
			for range r.IntN(4) {
				l = slices.Insert(l, r.IntN(len(l)+1), anyItem(r))
			}
			if len(l) > 1 && r.IntN(2) == 0 {
				i, j := r.IntN(len(l)), r.IntN(len(l))
				l[i], l[j] = l[j], l[i]
			}
		}
		x, y := of(t, before), of(t, l)
		want(t, y, l)
		held(t, x, y, before, l)
		held(t, y, x, l, before)
		before = l
	}
}

// held holds Differ and Same of x and y against those of a and b.
func held(t *testing.T, x, y *Tree, a, b []api.Item) {
	t.Helper()
	p, q := secondOf(a), secondOf(b)
	if got, told := differing(x, y), p.apart(q); !slices.Equal(got, told) {
		t.Fatalf("%v, %v: Differ = %v, want %v", a, b, got, told)
	}
	if got, told := Same(x, y), p[8][0] == q[8][0]; got != told {
		t.Fatalf("%v, %v: Same = %v", a, b, got)
	}
}

// 19.3

func TestHugeLists(t *testing.T) {
	l := make([]api.Item, 0, 300000)
	for i := range cap(l) {
		l = append(l, sample(i%300-20, uint64(i), 1, 1))
	}
	want(t, of(t, l), l)
	wantApart(t, "huge", l, l[1:1000], secondOf(l).apart(secondOf(l[1:1000]))...)
}

// itemsOf reads items from any bytes, most of which are of few Series.
func itemsOf(b []byte) []api.Item {
	var l []api.Item
	for len(b) >= 20 {
		x := api.Item{
			Series:  int(int8(b[0])) + 100,
			Kind:    int(int8(b[1])),
			Time:    binary.BigEndian.Uint64(b[2:]) >> (b[18] % 64),
			Version: binary.BigEndian.Uint64(b[10:]) >> (b[19] % 64),
			Value:   int64(binary.BigEndian.Uint64(b[12:])),
		}
		switch b[1] {
		case 1:
			x.Time, x.Value = 0, 0
		case 3:
			x.Series = int(binary.BigEndian.Uint64(b[4:]))
		}
		l = append(l, x)
		b = b[20:]
	}
	return l
}

func FuzzNoCallPanics(f *testing.F) {
	f.Add([]byte(nil), []byte(nil), 0, 0)
	f.Add([]byte("\x03\x02......................................"), []byte("\x03\x01.................."), 8, 0)
	f.Add([]byte("\x03\x03......................................"), []byte("\x7f\x02.................."), 7, 1)
	f.Add(make([]byte, 60), []byte("\x80\xff.................."), math.MinInt, math.MaxInt)
	f.Add([]byte("\x9b\x02\x00\x00\x00\x00\x00\x00\x00\x07\x00\x00\x00\x00\x00\x00\x00\x09\x00\x00"), make([]byte, 20), math.MaxInt, -1)
	f.Fuzz(func(t *testing.T, a, b []byte, level, i int) {
		l, m := itemsOf(a), itemsOf(b)
		x, y := of(t, l), of(t, m)
		p := secondOf(l)
		told := uint64(0)
		if level >= 0 && level < len(p) && i >= 0 && i < len(p[level]) {
			told = p[level][i]
		}
		if got := x.Node(level, i); got != told {
			t.Fatalf("Node(%d, %d) = %x, want %x", level, i, got, told)
		}
		if got := x.Leaf(level); level >= 0 && level < 256 && got != p[0][level] || (level < 0 || level > 255) && got != 0 {
			t.Fatalf("Leaf(%d) = %x", level, got)
		}
		held(t, x, y, l, m)
		held(t, y, x, m, l)
		want(t, x, l)
		want(t, y, m)
		if len(Differ(x, nil)) != 256 || len(Differ(nil, y)) != 256 || Same(nil, x) || Same(y, nil) {
			t.Fatal("of nil")
		}
	})
}
