package level

import (
	"math"
	"slices"
	"testing"

	"clepsydra/api"
)

// 17.1: After

func some() []api.Held {
	return list(held(4, 0, "a", "c", 5), held(2, 1, "b", "b", 6), held(9, 0, "", "z", 0), held(7, 3, "x", "y", 900), held(3, 2, "q", "qq", -1), held(5, 1, "\x00", "\xff", 8))
}

// leveled answers l with all files of this Level.
func leveled(l []api.Held, level int) []api.Held {
	own := cloneList(l)
	for i := range own {
		own[i].Level = level
	}
	return own
}

func TestAfterOfNone(t *testing.T) {
	for _, files := range [][]api.Held{nil, {}} {
		for _, in := range [][]int{nil, {}, {0}, {1, 2, 2}} {
			wantAfter(t, "nothing", after(t, files, in, 1, nil))
			wantAfter(t, "nothing", after(t, files, in, 1, list()))
			wantAfter(t, "what was made", after(t, files, in, 3, some()), leveled(some(), 3)...)
		}
	}
	for _, in := range [][]int{nil, {}} {
		wantAfter(t, "no Nums", after(t, some(), in, 1, nil), some()...)
		wantAfter(t, "no Nums", after(t, some(), in, 1, list(held(8, 0, "a", "b", 1))), append(some(), held(8, 1, "a", "b", 1))...)
	}
}

func TestAfter(t *testing.T) {
	l := some()
	made := list(held(11, 0, "m", "n", 3), held(10, 3, "a", "b", 200), held(12, 77, "", "", 0))
	for _, c := range []struct {
		why  string
		in   []int
		want []api.Held
	}{
		{"one", []int{9}, list(l[0], l[1], l[3], l[4], l[5])},
		{"the first", []int{4}, l[1:]},
		{"the last", []int{5}, l[:5]},
		{"some", []int{5, 4, 7}, list(l[1], l[2], l[4])},
		{"some, in another order", []int{4, 7, 5}, list(l[1], l[2], l[4])},
		{"one told twice", []int{2, 2, 2}, list(l[0], l[2], l[3], l[4], l[5])},
		{"all", []int{2, 3, 4, 5, 7, 9}, nil},
		{"none has these", []int{1, 6, 8, 0, -4, 1 << 40, math.MaxInt, math.MinInt}, l},
		{"one is there", []int{1, 6, 3, 10, 11, 12}, list(l[0], l[1], l[2], l[3], l[5])},
	} {
		wantAfter(t, c.why, after(t, l, c.in, 2, nil), c.want...)
		for _, to := range []int{0, 1, 2, 3} {
			wantAfter(t, c.why, after(t, l, c.in, to, made), slices.Concat(c.want, leveled(made, to))...)
		}
	}
}

func TestAfterOfAnyLevel(t *testing.T) {
	made := list(held(11, 0, "m", "n", 3), held(10, -5, "a", "b", 200), held(12, 3, "", "", 0))
	for _, to := range []int{-1, 0, 3, 4, 1000, math.MaxInt, math.MinInt} {
		// The kept ones stay on their level, whichever it is.
		kept := list(held(1, to, "a", "b", 1), held(2, -9, "a", "b", 1), held(3, math.MaxInt, "a", "b", 1))
		wantAfter(t, "any level", after(t, append(kept, held(4, to, "c", "d", 1)), []int{4}, to, made), slices.Concat(kept, leveled(made, to))...)
	}
}

// in tells of files, not of made; and whatever there is, none is there only once.
func TestAfterOfNumsThatAreAlike(t *testing.T) {
	twice := list(held(3, 0, "a", "b", 1), held(4, 1, "a", "b", 1), held(3, 2, "c", "d", 2), held(3, 9, "", "", 0))
	made := list(held(3, 0, "m", "n", 3), held(3, 0, "m", "n", 3), held(4, 0, "m", "n", 3))
	wantAfter(t, "all of a Num go", after(t, twice, []int{3}, 2, nil), twice[1])
	wantAfter(t, "what is made stays", after(t, twice, []int{3}, 2, made), slices.Concat(list(twice[1]), leveled(made, 2))...)
	wantAfter(t, "what is made stays", after(t, twice, []int{3, 4}, 2, made), leveled(made, 2)...)
	wantAfter(t, "what is made takes no place", after(t, twice, nil, 2, made), slices.Concat(twice, leveled(made, 2))...)
	wantAfter(t, "any Nums", after(t, list(held(0, 0, "", "", 1), held(-1, 0, "", "", 1), held(math.MaxInt, 0, "", "", 1), held(math.MinInt, 0, "", "", 1)), []int{math.MinInt, 0}, 1, list(held(0, 0, "", "", 1))),
		held(-1, 0, "", "", 1), held(math.MaxInt, 0, "", "", 1), held(0, 1, "", "", 1))
}

// Lists that share memory are lists like others, and what is answered shares none
// with itself.
func TestAfterOfListsThatShareMemory(t *testing.T) {
	l, unchanged := lent(some())
	got := After(l, []int{9}, 1, l)
	want := slices.Concat(l[:2], l[3:], leveled(l, 1))
	wantAfter(t, "files and made are one", got, want...)
	apart(t, got)
	if !unchanged() {
		t.Error("what was handed in was changed")
	}
	key := []byte("key")
	f := api.Held{Num: 1, Level: 1, First: key, Last: key, Len: 1}
	got = After(list(f, f), nil, 1, list(f))
	wantAfter(t, "all keys are one", got, f, f, f)
	apart(t, got)
	if string(key) != "key" {
		t.Error("what was handed in was changed")
	}
}

func TestAfterOfNilKeys(t *testing.T) {
	wantAfter(t, "nil", after(t, list(api.Held{}, api.Held{Num: 1}), []int{1}, 2, list(api.Held{})), api.Held{}, api.Held{Level: 2})
}

func TestAfterOfManyFiles(t *testing.T) {
	const size = 20000
	l := sized(1, make([]int, size)...)
	in := nums(l)
	slices.Reverse(in)
	wantAfter(t, "many go", After(l, in[1:], 2, l[:2]), held(size, 1, string(l[size-1].First), string(l[size-1].Last), 0), leveled(l, 2)[0], leveled(l, 2)[1])
}
