package level

import (
	"math"
	"slices"
	"sync"
	"testing"

	"clepsydra/api"
)

// 17.1: Pick

func TestPickOfWhatIsDone(t *testing.T) {
	for _, l := range [][]api.Held{
		nil, {}, {{}}, sized(0, 1, 1, 1), sized(1, 200), sized(1, 100, 100), sized(2, 2000), sized(2, 1000, 1000), sized(3, math.MaxInt, math.MaxInt), sized(-1, 1, 1, 1, 1), sized(4, 5000),
		slices.Concat(sized(0, 1, 1, 1), sized(1, 200), sized(2, 2000), sized(3, 1<<40), sized(-1, 9, 9, 9, 9)),
		sized(1, 0, 0, 0, 0, 0), sized(1, -5, 205), sized(2, math.MinInt, math.MaxInt),
	} {
		wantNone(t, "done", l)
	}
}

func TestPickOfLevelZero(t *testing.T) {
	wantPick(t, "four", sized(0, 5, 5, 5, 5), 1, 1, 2, 3, 4)
	wantPick(t, "five", sized(0, 5, 5, 5, 5, 5), 1, 1, 2, 3, 4, 5)
	wantPick(t, "with no items", sized(0, 0, 0, 0, 0), 1, 1, 2, 3, 4)
	wantPick(t, "some with no items", sized(0, 5, 0, 5, 0), 1, 1, 2, 3, 4)
	four := list(held(9, 0, "a", "b", 5), held(4, 0, "x", "y", 5), held(7, 0, "m", "m", 5), held(1, 0, "c", "z", 0))
	wantPick(t, "in the list's order", four, 1, 9, 4, 7, 1)
	ones := list(held(10, 1, "c", "l", 20), held(11, 1, "b", "c", 20), held(12, 1, "y", "z", 20), held(13, 1, "m", "n", 20), held(14, 1, "l", "n", 0), held(15, 1, "0", "a", 20), held(16, 1, "z", "z", 20))
	wantPick(t, "with those that Touch one", slices.Concat(four, ones), 1, 9, 4, 7, 1, 11, 12, 13, 15)
	wantPick(t, "with those that Touch one, ahead", slices.Concat(ones, four), 1, 11, 12, 13, 15, 9, 4, 7, 1)
	wantPick(t, "with those that Touch one, amid", slices.Concat(ones[:3], four[:2], ones[3:6], four[2:], ones[6:]), 1, 11, 12, 9, 4, 13, 15, 7, 1)
	wantPick(t, "with none that Touch", slices.Concat(ones[:1], four, ones[4:5], ones[6:]), 1, 9, 4, 7, 1)
	// Files of the levels behind the next one stay, and those of no level.
	wantPick(t, "others that would Touch", slices.Concat(four, list(held(20, 2, "a", "z", 5), held(30, 3, "a", "z", 5), held(40, 4, "a", "z", 5), held(50, -1, "a", "z", 5))), 1, 9, 4, 7, 1)
	// What Touches only one of the next level, itself taken along, stays.
	wantPick(t, "a chain", slices.Concat(four[:3], list(held(8, 0, "m", "m", 5), held(21, 1, "b", "d", 5), held(22, 1, "d", "f", 5))), 1, 9, 4, 7, 8, 21)
}

func TestPickOfLevelsOneAndTwo(t *testing.T) {
	for level, most := range map[int]int{1: 200, 2: 2000} {
		to := level + 1
		first := held(5, level, "f", "k", most)
		rest := list(held(6, level, "a", "e", 1), held(7, level, "k", "z", 3))
		next := list(held(20, to, "a", "e", 5), held(21, to, "k", "m", 5), held(22, to, "g", "h", 0), held(23, to, "l", "m", 5), held(24, to, "c", "f", 5), held(25, to, "g", "h", 5), held(26, to, "a", "z", -1))
		over := append(list(first), rest...)
		wantPick(t, "alone", list(held(5, level, "f", "k", most+1)), to, 5)
		wantPick(t, "the first", over, to, 5)
		wantPick(t, "with those that Touch it", slices.Concat(over, next), to, 5, 21, 24, 25, 26)
		wantPick(t, "with those that Touch it, ahead", slices.Concat(next, over), to, 21, 24, 25, 26, 5)
		wantPick(t, "with those that Touch it, around", slices.Concat(next[:3], over, next[3:]), to, 21, 5, 24, 25, 26)
		wantPick(t, "with none that Touch", slices.Concat(next[:1], over, next[2:4]), to, 5)
		wantPick(t, "the first in the list", slices.Concat(rest[1:], next, rest[:1], list(first)), to, 7, 21, 23, 26)
		// The first goes down whatever it has: one with no items takes none along.
		none := held(9, level, "a", "z", 0)
		wantPick(t, "the first has no items", slices.Concat(list(none), next, over), to, 9)
		wantPick(t, "one with no items behind it", slices.Concat(over, list(none), next), to, 5, 21, 24, 25, 26)
		below := held(9, level, "l", "l", -1)
		wantPick(t, "the first has Len below 0", slices.Concat(list(below), next, over), to, 9, 21, 23, 26)
		// Files of its own level that Touch it stay, and those of other levels.
		wantPick(t, "others that would Touch", slices.Concat(over, list(held(8, level, "f", "k", 5), held(30, level+2, "f", "k", 5), held(31, level-2, "f", "k", 5), held(32, -1, "f", "k", 5), held(33, 7, "f", "k", 5), held(34, level-1, "f", "k", 5))), to, 5)
	}
}

func TestPickOfTheLowestThatIsOver(t *testing.T) {
	zero, one, two, three := sized(0, 1, 1, 1, 1), sized(1, 201), sized(2, 2001), sized(3, 1<<40)
	for i, f := range [][]api.Held{one, two, three} {
		f[0].Num = 10 * (i + 1)
	}
	wantPick(t, "all over", slices.Concat(three, two, one, zero), 1, 1, 2, 3, 4)
	wantPick(t, "0 and 2", slices.Concat(three, two, zero), 1, 1, 2, 3, 4)
	wantPick(t, "0 and 1", slices.Concat(one, zero), 1, 1, 2, 3, 4)
	wantPick(t, "1 and 2", slices.Concat(two, one, zero[:3]), 2, 10)
	wantPick(t, "2", slices.Concat(two, zero[:3], three), 3, 20)
	// The next level's files go along, whether it is over or not.
	wide := held(40, 1, "", "z", 500)
	wantPick(t, "0 and 1, Touching", slices.Concat(list(wide), zero), 1, 40, 1, 2, 3, 4)
	wide.Level = 2
	wide.Len = 5000
	wantPick(t, "1 and 2, Touching", slices.Concat(one, list(wide)), 2, 10, 40)
}

func TestPickOfGreatSums(t *testing.T) {
	wantPick(t, "level 1", sized(1, math.MaxInt, math.MaxInt, 2), 2, 1)
	wantPick(t, "level 2", sized(2, 1<<62, 1<<62), 3, 1)
	wantPick(t, "beside many of level 3", slices.Concat(sized(2, 1<<62, 1<<62), sized(3, math.MaxInt, math.MaxInt)), 3, 1)
}

// A Num is told as often as files with it are taken, and one that has it too, but
// is not taken, does not count.
func TestPickOfNumsThatStandTwice(t *testing.T) {
	l := slices.Repeat(list(held(3, 0, "c", "d", 1)), 4)
	wantPick(t, "four alike", l, 1, 3, 3, 3, 3)
	wantPick(t, "of two levels", slices.Concat(list(held(3, 1, "d", "d", 1)), l, list(held(3, 1, "e", "e", 1))), 1, 3, 3, 3, 3, 3)
	ones := list(held(3, 1, "c", "d", 150), held(3, 1, "c", "d", 150), held(4, 1, "c", "d", 150))
	wantPick(t, "the first of two", ones, 2, 3)
	wantPick(t, "of the next level", slices.Concat(ones, list(held(3, 2, "x", "y", 1), held(4, 2, "d", "d", 1), held(4, 2, "c", "c", 1))), 2, 3, 4, 4)
}

// Nums are told as they are: none may be asked whether it could be.
func TestPickOfAnyNums(t *testing.T) {
	l := list(held(math.MinInt, 0, "", "", 1), held(0, 0, "", "", 1), held(-1, 0, "", "", 1), held(math.MaxInt, 0, "", "", 1), held(1<<30+1, 1, "", "", 1))
	wantPick(t, "any Nums", l, 1, math.MinInt, 0, -1, math.MaxInt, 1<<30+1)
}

func TestPickOfTurnedFiles(t *testing.T) {
	four := slices.Repeat(list(held(1, 0, "f", "c", 1)), 4)
	next := list(held(2, 1, "c", "f", 1), held(3, 1, "d", "e", 1), held(4, 1, "f", "c", 1), held(5, 1, "a", "z", 1))
	wantPick(t, "turned", slices.Concat(four, next), 1, 1, 1, 1, 1, 2, 5)
}

func TestPickOfManyFiles(t *testing.T) {
	const size = 3000
	l := slices.Concat(sized(0, slices.Repeat([]int{1}, size)...), sized(1, slices.Repeat([]int{1}, size)...))
	for i := range size {
		l[size+i].Num += size
		if i%3 == 0 {
			l[size+i].First = l[i].First
		}
	}
	// The files whose First was set reach back over all of level 0 from there on.
	var want []int
	for i := range 2 * size {
		if i < size || (i-size)%3 == 0 {
			want = append(want, i+1)
		}
	}
	wantPick(t, "many", l, 1, want...)
}

// Ways

func TestLevelsAreLookedAtOnce(t *testing.T) {
	first := slices.Concat(sized(0, 1, 1, 1, 1), sized(1, 300), sized(9, 1))
	l := look{files: first}
	for n := range levels {
		if len(l.places[n]) > 0 {
			t.Fatal("looked at ahead of the first call")
		}
	}
	if n, ok := l.lowest(); n != 0 || !ok {
		t.Error("the lowest is", n, ok)
	}
	at := &l.on(0)[0]
	// Where it looked again it would see this.
	l.files = sized(1, 300, 300, 300, 300, 300)
	for range 3 {
		if !slices.Equal(l.on(0), []int{0, 1, 2, 3}) || !slices.Equal(l.on(1), []int{4}) || len(l.on(2)) > 0 || len(l.on(3)) > 0 || &l.on(0)[0] != at {
			t.Errorf("looked at again: %v", l.places)
		}
	}
}

func TestLookOfManyGoroutines(t *testing.T) {
	files := slices.Concat(sized(2, 5000), sized(0, 1, 1, 1, 1), sized(1, 300))
	for range 50 {
		l := look{files: files}
		var all sync.WaitGroup
		for range 8 {
			all.Go(func() {
				if n, ok := l.lowest(); n != 0 || !ok || !slices.Equal(l.on(0), []int{1, 2, 3, 4}) {
					t.Error("the lowest is", n, ok)
				}
			})
		}
		all.Wait()
	}
}
