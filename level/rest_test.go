package level

import (
	"bytes"
	"math/rand/v2"
	"slices"
	"testing"

	"clepsydra/api"
)

// 17.2

// step takes one Pick and its After, and fails where what was over did not go one
// level down: all of level 0, the first file of another one.
func step(t *testing.T, files []api.Held, merge func(taken []api.Held) []api.Held) []api.Held {
	t.Helper()
	over := Over(files)
	in, to, ok := Pick(files)
	if !ok || to != over[0]+1 {
		t.Fatalf("Pick of %v is %v, %d, %v", files, in, to, ok)
	}
	goes := func(f api.Held) bool { return slices.Contains(in, f.Num) }
	var taken, kept []api.Held
	for _, f := range files {
		if goes(f) {
			taken = append(taken, f)
		} else {
			kept = append(kept, f)
		}
	}
	down := onLevel(files, over[0])
	if over[0] > 0 {
		down = down[:1]
	}
	for _, f := range down {
		if !goes(f) {
			t.Fatalf("Pick of %v leaves %v", files, f)
		}
	}
	made := merge(taken)
	got := After(files, in, to, made)
	if !sameList(got, slices.Concat(kept, leveled(made, to))) {
		t.Fatalf("After of %v, %v and %v is %v", files, in, made, got)
	}
	if left := len(onLevel(got, over[0])); left > len(onLevel(files, over[0]))-len(down) {
		t.Fatalf("%v are taken of %v, and %d are left of level %d", in, files, left, over[0])
	}
	return got
}

// ends takes Picks and Afters, one behind the other, till nothing is over: that
// comes, since each of them takes a file from its level, and puts what comes in its
// place on the next one, from the last of which none is taken.
func ends(t *testing.T, files []api.Held, merge func(taken []api.Held) []api.Held) []api.Held {
	t.Helper()
	for range 20000 {
		if Done(files) {
			if in, to, ok := Pick(files); len(in) != 0 || to != 0 || ok {
				t.Fatalf("Pick of %v is %v, %d, %v", files, in, to, ok)
			}
			return files
		}
		files = step(t, files, merge)
	}
	t.Fatalf("%v: still %v are over", files, Over(files))
	return nil
}

// pieces makes files of at most 200 items each of all that the taken ones have, with
// Nums of their own, from next on.
func pieces(taken []api.Held, next *int) []api.Held {
	var made []api.Held
	items, first, last := 0, []byte(nil), []byte(nil)
	for _, f := range taken {
		if f.Len == 0 {
			continue
		}
		if items == 0 || bytes.Compare(f.First, first) < 0 {
			first = f.First
		}
		if items == 0 || bytes.Compare(f.Last, last) > 0 {
			last = f.Last
		}
		items += f.Len
	}
	for ; items > 0; items -= 200 {
		*next++
		made = append(made, api.Held{Num: *next, First: first, Last: last, Len: min(items, 200)})
	}
	return made
}

func items(l []api.Held) int {
	n := 0
	for _, f := range l {
		n += f.Len
	}
	return n
}

// As a node does it: none of the items gets lost, and each comes to rest on a level
// that is not over.
func TestPicksComeToAnEnd(t *testing.T) {
	for seed := range uint64(300) {
		r := rand.New(rand.NewPCG(172, seed))
		next := 100
		var files []api.Held
		for round := range 12 {
			// Some are written out, and then all comes to rest.
			for range r.IntN(7) {
				next++
				first := byte('a' + r.IntN(20))
				files = append(files, held(next, 0, string(first), string(first+byte(r.IntN(5))), r.IntN(400)))
			}
			was := items(files)
			files = ends(t, files, func(taken []api.Held) []api.Held { return pieces(taken, &next) })
			if items(files) != was {
				t.Fatalf("round %d: %d items of %d", round, items(files), was)
			}
			if len(onLevel(files, 0)) > 3 || items(onLevel(files, 1)) > 200 || items(onLevel(files, 2)) > 2000 {
				t.Fatalf("round %d: %v are at rest", round, files)
			}
		}
	}
}

// All of level 0 go at once; of the others as many as must, one by one.
func TestHowManyPicks(t *testing.T) {
	whole := func(taken []api.Held) []api.Held { return taken }
	wantAfter(t, "level 0", step(t, sized(0, 9, 9, 9, 9), whole), leveled(sized(0, 9, 9, 9, 9), 1)...)
	one := sized(1, 50, 60, 70, 80, 90)
	got := step(t, one, whole)
	wantAfter(t, "the first of level 1", got, slices.Concat(one[1:], leveled(one[:1], 2))...)
	got = step(t, got, whole)
	wantAfter(t, "the second of level 1", got, slices.Concat(one[2:], leveled(one[:2], 2))...)
	got = step(t, got, whole)
	wantAfter(t, "the third of level 1", got, slices.Concat(one[3:], leveled(one[:3], 2))...)
	if !Done(got) {
		t.Errorf("170 items on level 1 are over")
	}
	wantAfter(t, "from level 0 to level 3", ends(t, sized(0, 500, 500, 500, 501), whole), slices.Concat(leveled(sized(0, 500, 500, 500, 501)[1:], 2), leveled(sized(0, 500), 3))...)
}

// Whatever is made, also more than was taken, and with Nums that are there.
func TestPicksOfAnyFilesComeToAnEnd(t *testing.T) {
	for seed := range uint64(1000) {
		r := rand.New(rand.NewPCG(173, seed))
		pick := anyHeld
		if seed%2 == 0 {
			pick = anyOdd
		}
		ends(t, anyList(r, r.IntN(30), pick), func([]api.Held) []api.Held { return anyList(r, r.IntN(4), pick) })
	}
}

func TestPicksOfFilesWithNoItemsComeToAnEnd(t *testing.T) {
	none := func([]api.Held) []api.Held { return nil }
	whole := func(taken []api.Held) []api.Held { return taken }
	for _, l := range [][]api.Held{
		sized(0, make([]int, 100)...), sized(1, append(make([]int, 100), 201)...), sized(2, append(make([]int, 100), 2001)...),
		slices.Concat(sized(0, 0, 0, 0, 0), sized(1, 0, 0, 300), sized(2, 0, 0, 3000)),
		slices.Repeat(sized(0, 900), 50), slices.Repeat(sized(1, 900), 50), slices.Repeat(sized(2, 900), 50),
	} {
		ends(t, l, none)
		ends(t, l, whole)
	}
}
