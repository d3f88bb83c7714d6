package level

import (
	"math"
	"math/rand/v2"
	"slices"
	"testing"

	"clepsydra/api"
)

// 17.1: Over and Done

func TestOverOfNone(t *testing.T) {
	wantOver(t, "nil", nil)
	wantOver(t, "none", list())
	wantOver(t, "one with nothing", list(api.Held{}))
}

func TestOverOfLevelZero(t *testing.T) {
	for n := range 4 {
		wantOver(t, "few files", sized(0, make([]int, n)...))
		wantOver(t, "few files with many items", sized(0, slices.Repeat([]int{math.MaxInt}, n)...))
	}
	wantOver(t, "four", sized(0, 1, 1, 1, 1), 0)
	wantOver(t, "five", sized(0, 1, 1, 1, 1, 1), 0)
	wantOver(t, "four with no items", sized(0, 0, 0, 0, 0), 0)
	wantOver(t, "four of Len below 0", sized(0, -1, math.MinInt, -5, -9), 0)
	wantOver(t, "four that are one", slices.Repeat(sized(0, 1), 4), 0)
	wantOver(t, "many", sized(0, make([]int, 10000)...), 0)
	wantOver(t, "three, and others", slices.Concat(sized(0, 1, 1, 1), sized(1, 1), sized(2, 1), sized(3, 1), sized(-1, 1), sized(4, 1)))
}

func TestOverOfLevelsOneAndTwo(t *testing.T) {
	for level, most := range map[int]int{1: 200, 2: 2000} {
		half := most / 2
		wantOver(t, "one file, at most", sized(level, most))
		wantOver(t, "one file", sized(level, most+1), level)
		wantOver(t, "two files, at most", sized(level, half, half))
		wantOver(t, "two files", sized(level, half, half+1), level)
		wantOver(t, "some with no items, at most", sized(level, 0, half, 0, half, 0))
		wantOver(t, "some with no items", sized(level, 0, half, 0, half, 0, 1, 0), level)
		wantOver(t, "files of one item, at most", sized(level, slices.Repeat([]int{1}, most)...))
		wantOver(t, "files of one item", sized(level, slices.Repeat([]int{1}, most+1)...), level)
		wantOver(t, "many files with no items", sized(level, make([]int, 3*most)...))
		wantOver(t, "all one file", slices.Repeat(sized(level, half), 3), level)
		wantOver(t, "all one file, at most", slices.Repeat(sized(level, half), 2))
		wantOver(t, "files of other levels amid", list(held(1, level, "", "", half), held(2, 3, "", "", most), held(3, level, "", "", half), held(4, 0, "", "", most)))
		wantOver(t, "files of other levels amid, over", list(held(1, level, "", "", half), held(2, 3, "", "", most), held(3, level, "", "", half+1), held(4, 0, "", "", most)), level)
	}
	// The bound of one level is not that of the other.
	wantOver(t, "level 2 with 201", sized(2, 201))
	wantOver(t, "level 1 with 2,001", sized(1, 2001), 1)
	wantOver(t, "both at most", slices.Concat(sized(2, 2000), sized(1, 200)))
	// However many files there are: items count.
	wantOver(t, "five files of each", slices.Concat(sized(1, 1, 1, 1, 1, 1), sized(2, 1, 1, 1, 1, 1)))
}

func TestOverOfOtherLevels(t *testing.T) {
	for _, level := range []int{3, 4, 5, 100, -1, -2, math.MaxInt, math.MinInt, 1 << 32, 1<<32 + 1, 256} {
		wantOver(t, "many items", sized(level, math.MaxInt, 1, math.MaxInt, 2001))
		wantOver(t, "many files", sized(level, make([]int, 100)...))
		wantOver(t, "beside others", slices.Concat(sized(level, 5000, 5000, 5000, 5000), sized(0, 5, 5, 5), sized(1, 200), sized(2, 2000)))
		wantOver(t, "beside others that are over", slices.Concat(sized(2, 2001), sized(level, 5000, 5000, 5000, 5000), sized(1, 201)), 1, 2)
	}
}

func TestOverRises(t *testing.T) {
	zero, one, two := sized(0, 1, 1, 1, 1), sized(1, 201), sized(2, 2001)
	wantOver(t, "all", slices.Concat(zero, one, two), 0, 1, 2)
	wantOver(t, "all, turned", slices.Concat(two, one, zero), 0, 1, 2)
	wantOver(t, "0 and 2", slices.Concat(two, zero, sized(1, 200)), 0, 2)
	wantOver(t, "0 and 1", slices.Concat(one, sized(2, 2000), zero), 0, 1)
	wantOver(t, "1 and 2", slices.Concat(two, sized(0, 1, 1, 1), one), 1, 2)
	mixed := slices.Concat(zero, one, two, sized(3, 9000), sized(9, 9))
	r := rand.New(rand.NewPCG(17, 1))
	for range 100 {
		r.Shuffle(len(mixed), func(i, j int) { mixed[i], mixed[j] = mixed[j], mixed[i] })
		wantOver(t, "all, in any order", mixed, 0, 1, 2)
	}
}

// A sum that passes what an int holds is as great as it is.
func TestOverOfSumsBeyondAnInt(t *testing.T) {
	const top, low = math.MaxInt, math.MinInt
	for _, level := range []int{1, 2} {
		for _, lens := range [][]int{
			{top}, {top, 1}, {top, top}, {top, top, 2}, {top, top, top, top}, {1 << 62, 1 << 62}, {1 << 62, 1 << 62, 1 << 62, 1 << 62}, {1 << 62, 1 << 62, 1 << 62, 1 << 62, 1},
			slices.Repeat([]int{1 << 62}, 8), slices.Repeat([]int{1 << 62}, 5), slices.Repeat([]int{top}, 1000), slices.Repeat([]int{top}, 1025),
			{low, top, top}, {top, low, top}, {top, top, low}, {low, low, top, top, 2003},
		} {
			wantOver(t, "great sums", sized(level, lens...), level)
		}
		for _, lens := range [][]int{
			{low}, {low, -1}, {low, low}, {low, low, low, low}, {low, top}, {top, low}, {low, low, top, top}, {low, low, top, top, 202}, {top, top, low, low, 202},
			slices.Repeat([]int{low}, 8), slices.Repeat([]int{low}, 1025), slices.Repeat([]int{-1}, 1000),
		} {
			wantOver(t, "great sums below", sized(level, lens...))
		}
	}
}

// A Len below 0 is taken as the number that it is.
func TestOverOfLenBelowZero(t *testing.T) {
	for level, most := range map[int]int{1: 200, 2: 2000} {
		wantOver(t, "below 0", sized(level, -1))
		wantOver(t, "below 0, far", sized(level, -most-1))
		wantOver(t, "one less", sized(level, most+1, -1))
		wantOver(t, "one less, ahead", sized(level, -1, most+1))
		wantOver(t, "one too many", sized(level, most+2, -1), level)
		wantOver(t, "one too many, ahead", sized(level, -1, most+2), level)
		wantOver(t, "of the other level", slices.Concat(sized(level, most+1), sized(3-level, -5000)), level)
	}
}

// The order of the files does not count.
func TestOverHangsOnNoOrder(t *testing.T) {
	for seed := range uint64(500) {
		r := rand.New(rand.NewPCG(17, seed))
		l := anyList(r, r.IntN(14), anyOdd)
		want := overs(t, l)
		for range 5 {
			r.Shuffle(len(l), func(i, j int) { l[i], l[j] = l[j], l[i] })
			wantOver(t, "shuffled", l, want...)
		}
	}
}
