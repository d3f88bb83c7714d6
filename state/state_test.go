package state

import (
	"math"
	"math/rand/v2"
	"slices"
	"testing"

	"clepsydra/api"
	"clepsydra/item"
)

// 6.1

func TestOk(t *testing.T) {
	for _, c := range []struct {
		why  string
		l    []api.Item
		want bool
	}{
		{"no list", nil, true},
		{"an empty one", list(), true},
		{"a sample", list(sample(1, 5, 4, 1)), true},
		{"a delete", list(tomb(1, 5)), true},
		{"a delete, and samples above it", list(tomb(1, 5), sample(1, 0, 6, 1), sample(1, 9, 7, 1)), true},
		{"a delete beside an elder sample of the next series", list(tomb(1, 5), sample(2, 0, 4, 1)), true},
		{"a delete beside an elder sample of the series ahead", list(sample(1, 0, 4, 1), tomb(2, 5)), true},
		{"the ends of all bounds", list(tomb(0, 1), sample(0, 0, 2, math.MinInt64), tomb(255, 1<<48-1), sample(255, 1<<40, 1<<48, math.MaxInt64)), true},
		{"series fall", list(sample(2, 5, 4, 1), sample(1, 5, 4, 1)), false},
		{"times fall", list(sample(1, 6, 4, 1), sample(1, 5, 4, 1)), false},
		{"a sample ahead of its delete", list(sample(1, 5, 6, 1), tomb(1, 5)), false},
		{"it falls at its end", list(sample(1, 5, 4, 1), sample(1, 6, 4, 1), sample(1, 5, 4, 1)), false},
		{"an item twice", list(sample(1, 5, 4, 1), sample(1, 5, 4, 1)), false},
		{"a place twice", list(sample(1, 5, 4, 1), sample(1, 5, 5, 2)), false},
		{"a delete twice", list(tomb(1, 5), tomb(1, 6)), false},
		{"a delete that hides", list(tomb(1, 5), sample(1, 0, 4, 1)), false},
		{"a delete that hides, of the same version", list(tomb(1, 5), sample(1, 0, 5, 1)), false},
		{"a delete that hides the last", list(tomb(1, 5), sample(1, 0, 6, 1), sample(1, 1, 7, 1), sample(1, 2, 5, 1)), false},
		{"the second delete hides", list(tomb(1, 9), sample(1, 0, 10, 1), tomb(2, 5), sample(2, 0, 5, 1)), false},
	} {
		if in, same := spare(c.l); Ok(in) != c.want || !same() {
			t.Errorf("%s: Ok(%v) is not %v", c.why, c.l, c.want)
		}
	}
}

func TestOkRefusesItems(t *testing.T) {
	for _, x := range bad() {
		l := list(sample(0, 1, 5, 1), sample(1, 0, 6, 1), sample(2, 1, 5, 1))
		if !Ok(l) {
			t.Fatal("a state")
		}
		for at := range len(l) + 1 {
			if with := slices.Insert(slices.Clone(l), at, x); Ok(with) {
				t.Errorf("%v is a state", with)
			}
		}
		if Ok(list(x)) {
			t.Errorf("%v alone is a state", x)
		}
	}
}

func TestOkOfAllShortLists(t *testing.T) {
	for _, l := range lists(4) {
		if Ok(l) != plainOk(l) {
			t.Fatalf("Ok(%v) is %v", l, Ok(l))
		}
	}
}

func TestAddToNothing(t *testing.T) {
	for _, x := range list(sample(3, 7, 9, 5), tomb(3, 1), sample(0, 0, 1, math.MinInt64), sample(255, 1<<40, 1<<48, math.MaxInt64)) {
		want(t, "to none", add(t, nil, x), list(x))
		want(t, "to an empty one", add(t, list(), x), list(x))
	}
}

func TestAddAtItsPlace(t *testing.T) {
	l := list(sample(1, 5, 10, 1), sample(2, 5, 10, 1))
	for _, c := range []struct {
		why  string
		x    api.Item
		want []api.Item
	}{
		{"ahead of all", sample(0, 9, 1, 1), list(sample(0, 9, 1, 1), l[0], l[1])},
		{"an earlier time", sample(1, 4, 1, 1), list(sample(1, 4, 1, 1), l[0], l[1])},
		{"between", sample(1, 6, 1, 1), list(l[0], sample(1, 6, 1, 1), l[1])},
		{"behind all", sample(2, 6, 1, 1), list(l[0], l[1], sample(2, 6, 1, 1))},
		{"a Version below", sample(1, 5, 9, 9), l},
		{"a Version above", sample(1, 5, 11, -9), list(sample(1, 5, 11, -9), l[1])},
		{"a Value below", sample(1, 5, 10, 0), l},
		{"the same", sample(1, 5, 10, 1), l},
		{"a Value above", sample(1, 5, 10, 2), list(sample(1, 5, 10, 2), l[1])},
		{"a Value far below", sample(2, 5, 10, math.MinInt64), l},
		{"a Value far above", sample(2, 5, 10, math.MaxInt64), list(l[0], sample(2, 5, 10, math.MaxInt64))},
	} {
		want(t, c.why, add(t, l, c.x), c.want)
	}
}

func TestAddADelete(t *testing.T) {
	l := list(sample(0, 5, 3, 1), sample(1, 0, 10, 1), sample(1, 5, 12, 2), sample(1, 9, 11, 3), sample(2, 5, 3, 1))
	for _, c := range []struct {
		why  string
		x    api.Item
		want []api.Item
	}{
		{"hides none", tomb(1, 9), list(l[0], tomb(1, 9), l[1], l[2], l[3], l[4])},
		{"hides the one of its version", tomb(1, 10), list(l[0], tomb(1, 10), l[2], l[3], l[4])},
		{"hides some", tomb(1, 11), list(l[0], tomb(1, 11), l[2], l[4])},
		{"hides all", tomb(1, 12), list(l[0], tomb(1, 12), l[4])},
		{"hides all, by far", tomb(1, 1<<48), list(l[0], tomb(1, 1<<48), l[4])},
		{"of the first series", tomb(0, 3), append(list(tomb(0, 3)), l[1:]...)},
		{"of the last series", tomb(2, 3), append(slices.Clone(l[:4]), tomb(2, 3))},
		{"of a series that is not there", tomb(255, 9), append(slices.Clone(l), tomb(255, 9))},
	} {
		want(t, c.why, add(t, l, c.x), c.want)
	}
	want(t, "the chapter's example", add(t, add(t, nil, sample(3, 7, 4, 1)), tomb(3, 5)), list(tomb(3, 5)))
	want(t, "the chapter's example, turned", add(t, add(t, nil, tomb(3, 5)), sample(3, 7, 4, 1)), list(tomb(3, 5)))
}

func TestAddBesideADelete(t *testing.T) {
	l := list(tomb(1, 9), sample(1, 5, 10, 1), sample(1, 6, 12, 1))
	for _, c := range []struct {
		why  string
		x    api.Item
		want []api.Item
	}{
		{"hidden", sample(1, 7, 8, 1), l},
		{"hidden, of the delete's version", sample(1, 7, 9, 1), l},
		{"hidden, at a place that is taken", sample(1, 5, 9, 99), l},
		{"not hidden", sample(1, 7, 10, 1), append(slices.Clone(l), sample(1, 7, 10, 1))},
		{"of the series behind", sample(2, 7, 1, 1), append(slices.Clone(l), sample(2, 7, 1, 1))},
		{"of the series ahead", sample(0, 7, 1, 1), append(list(sample(0, 7, 1, 1)), l...)},
		{"a lesser delete", tomb(1, 8), l},
		{"the same delete", tomb(1, 9), l},
		{"a greater delete", tomb(1, 11), list(tomb(1, 11), l[2])},
		{"a delete that hides all", tomb(1, 12), list(tomb(1, 12))},
	} {
		want(t, c.why, add(t, l, c.x), c.want)
	}
}

func TestAddToNoState(t *testing.T) {
	for _, l := range [][]api.Item{
		list(sample(2, 5, 10, 1), sample(1, 5, 10, 1)),
		list(sample(1, 5, 10, 1), sample(1, 5, 10, 1)),
		list(tomb(1, 5), sample(1, 5, 4, 1)),
		list(api.Item{}),
		list(sample(1, 5, 10, 1), sample(256, 5, 10, 1)),
	} {
		for _, x := range list(tomb(1, 99), sample(1, 5, 99, 1), sample(3, 5, 99, 1), api.Item{}) {
			want(t, "no state", add(t, l, x), l)
		}
	}
}

func TestAddOfWhatMayNotBe(t *testing.T) {
	for _, x := range bad() {
		for _, l := range [][]api.Item{nil, list(sample(1, 1, 4, 1)), list(tomb(1, 4), sample(1, 1, 5, 1), sample(255, 1, 1, 1))} {
			want(t, "may not be", add(t, l, x), l)
		}
	}
}

func TestAddOfAllShortLists(t *testing.T) {
	for _, l := range lists(3) {
		for _, x := range few() {
			got := add(t, l, x)
			if !slices.Equal(got, plainAdd(l, x)) {
				t.Fatalf("Add(%v, %v) = %v, want %v", l, x, got, plainAdd(l, x))
			}
			if Ok(l) && !Ok(got) {
				t.Fatalf("Add(%v, %v) = %v: no state", l, x, got)
			}
		}
	}
}

func TestOf(t *testing.T) {
	want(t, "of none", of(t, nil), nil)
	want(t, "of an empty list", of(t, list()), nil)
	want(t, "of what may not be", of(t, bad()), nil)
	all := list(sample(2, 1, 5, 1), tomb(1, 6), sample(1, 3, 6, 1), sample(1, 3, 7, 2), api.Item{}, sample(1, 4, 5, 1), sample(2, 1, 4, 9), sample(2, 1, 5, 3))
	r := rand.New(rand.NewPCG(6, 1))
	for range 2000 {
		want(t, "in any order", of(t, all), list(tomb(1, 6), sample(1, 3, 7, 2), sample(2, 1, 5, 3)))
		r.Shuffle(len(all), func(i, j int) { all[i], all[j] = all[j], all[i] })
	}
}

func TestOfAllShortLists(t *testing.T) {
	for _, l := range lists(4) {
		if got := Of(l); !slices.Equal(got, plainOf(l)) {
			t.Fatalf("Of(%v) = %v, want %v", l, got, plainOf(l))
		}
	}
}

func TestOfAStateIsItself(t *testing.T) {
	for _, l := range lists(3) {
		if Ok(l) && !slices.Equal(of(t, l), l) {
			t.Fatalf("Of(%v) = %v", l, Of(l))
		}
	}
}

func TestJoin(t *testing.T) {
	a := list(tomb(1, 6), sample(1, 3, 7, 2), sample(2, 1, 5, 3))
	for _, c := range []struct {
		why      string
		a, b     []api.Item
		together []api.Item
	}{
		{"none", nil, list(), nil},
		{"none with a state", nil, a, a},
		{"a state with none", a, nil, a},
		{"with itself", a, a, a},
		{"a b in no order", list(sample(1, 0, 5, 1)), list(sample(2, 1, 5, 3), sample(1, 3, 7, 2), tomb(1, 6)), a},
		{"a b with what may not be", a, bad(), a},
		{"a b with that and more", a, append(bad(), sample(3, 1, 1, 1)), append(slices.Clone(a), sample(3, 1, 1, 1))},
		{"an a that does not rise", list(a[2], a[1], a[0]), list(sample(3, 1, 1, 1)), append(slices.Clone(a), sample(3, 1, 1, 1))},
		{"an a that does not rise, with none", list(a[2], a[1], a[0]), nil, a},
		{"an a with what may not be", append(bad(), a...), nil, a},
		{"an a that hides", list(tomb(1, 6), sample(1, 3, 6, 1)), nil, list(tomb(1, 6))},
		{"each hides of the other", list(tomb(1, 5), sample(2, 1, 4, 1)), list(sample(1, 1, 5, 1), tomb(2, 4)), list(tomb(1, 5), tomb(2, 4))},
	} {
		want(t, c.why, join(t, c.a, c.b), c.together)
	}
}

func TestJoinOfAllShortLists(t *testing.T) {
	all := lists(2)
	for _, a := range all {
		for _, b := range all {
			if got := Join(a, b); !slices.Equal(got, plainJoin(a, b)) {
				t.Fatalf("Join(%v, %v) = %v, want %v", a, b, got, plainJoin(a, b))
			}
		}
	}
}

func TestLongLists(t *testing.T) {
	r := rand.New(rand.NewPCG(6, 2))
	for n := range 300 {
		a, b, x := anyList(r, n), anyList(r, r.IntN(100)), anyItem(r)
		want(t, "Of", of(t, a), plainOf(a))
		want(t, "Join", join(t, a, b), plainJoin(a, b))
		want(t, "Join of a state", join(t, Of(a), b), plainJoin(plainOf(a), b))
		want(t, "Add", add(t, Of(a), x), plainAdd(plainOf(a), x))
		if !plainOk(Of(a)) || !Ok(Of(a)) {
			t.Fatalf("Of(%v) is no state", a)
		}
	}
}

func TestManyItems(t *testing.T) {
	var l []api.Item
	young := 0
	for i := range 200000 {
		x := sample(255-i%256, uint64(200000-i), uint64(1+i%7), int64(i))
		l = append(l, x)
		if x.Version > 6 {
			young++
		}
	}
	all := Of(l)
	if len(all) != len(l) || !Ok(all) || !Same(Join(all, l), all) {
		t.Error(len(all), "items that hold")
	}
	for s := range 256 {
		l = append(l, tomb(s, 6))
	}
	if left := Join(all, l); len(left) != 256+young || !Ok(left) {
		t.Error(len(left), "behind the deletes")
	}
}

// 6.3

func TestJoinTurnedRoundAndTwice(t *testing.T) {
	all := lists(2)
	for _, a := range all {
		for _, b := range all {
			ab := Join(a, b)
			if !Same(Join(b, a), ab) {
				t.Fatalf("Join(%v, %v) = %v, but turned round %v", a, b, ab, Join(b, a))
			}
			if !Same(Join(ab, b), ab) || !Same(Join(ab, a), ab) || !Same(Join(ab, ab), ab) || !Same(Join(Join(b, b), a), ab) {
				t.Fatalf("Join(%v, %v) = %v is another one when done twice", a, b, ab)
			}
		}
	}
}

func TestJoinInParts(t *testing.T) {
	r := rand.New(rand.NewPCG(6, 3))
	for range 500 {
		a, b, c := anyList(r, r.IntN(30)), anyList(r, r.IntN(30)), anyList(r, r.IntN(30))
		all := Join(Join(a, b), c)
		for _, got := range [][]api.Item{
			Join(a, Join(b, c)), Join(Join(c, b), a), Join(b, Join(a, c)),
			Join(nil, slices.Concat(a, b, c)), Of(slices.Concat(c, a, b, a)),
			Join(Join(Join(a, b), c), b), Join(slices.Concat(b, c), slices.Concat(c, a)),
		} {
			want(t, "in other parts", got, all)
		}
		oneByOne := Of(a)
		for _, x := range r.Perm(len(b) + len(c)) {
			oneByOne = Join(oneByOne, list(slices.Concat(b, c)[x]))
		}
		want(t, "one by one", oneByOne, all)
	}
}

// W3: what is there was told of, and has all that was, or what came in its
// place.
func TestNothingIsMadeUpOrLost(t *testing.T) {
	r := rand.New(rand.NewPCG(6, 4))
	for range 500 {
		told := anyList(r, r.IntN(60))
		half := r.IntN(len(told) + 1)
		got := Join(Of(told[:half]), told[half:])
		for _, x := range got {
			if !slices.Contains(told, x) {
				t.Fatalf("%v was never told of: %v", x, told)
			}
		}
		for _, x := range told {
			inPlace := func(y api.Item) bool {
				return x == y || item.Same(x, y) && item.Wins(y, x) || item.Hides(y, x)
			}
			if item.Ok(x) && !slices.ContainsFunc(got, inPlace) {
				t.Fatalf("%v is lost: %v", x, got)
			}
		}
	}
}

// W4: behind a delete nothing brings back a sample that is not above it.
func TestWhatWasDeletedStaysGone(t *testing.T) {
	r := rand.New(rand.NewPCG(6, 5))
	for range 300 {
		l := Add(Of(anyList(r, 30)), tomb(1, 3))
		for range 30 {
			if x := anyItem(r); r.IntN(2) == 0 {
				l = Add(l, x)
			} else {
				l = Join(anyList(r, 3), append(l, x))
			}
			for _, x := range Range(l, 1, 0, math.MaxUint64) {
				if x.Version <= 3 {
					t.Fatalf("%v is back: %v", x, l)
				}
			}
			if Tomb(l, 1) < 3 {
				t.Fatalf("the delete is gone: %v", l)
			}
		}
	}
}
