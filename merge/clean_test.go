package merge

import (
	"math"
	"testing"

	"clepsydra/api"
)

// 13.1

func TestCleanOfNone(t *testing.T) {
	want(t, "nil", cleaned(t, nil), nil)
	want(t, "none", cleaned(t, list()), nil)
	for _, v := range []uint64{0, 1, 1 << 48, math.MaxUint64} {
		want(t, "nil", without(t, nil, v), nil)
		want(t, "none", without(t, list(), v), nil)
	}
}

func TestCleanOfListsWithNoDelete(t *testing.T) {
	l := list(sample(0, 0, 1, 0), sample(1, 3, 4, 9), sample(1, 1<<40, 1<<48, -1), sample(255, 0, 1, 1))
	for n := range len(l) + 1 {
		want(t, "no delete", cleaned(t, l[:n]), l[:n])
		want(t, "no delete", without(t, l[:n], 1<<48), l[:n])
	}
}

func TestClean(t *testing.T) {
	a, b, c := sample(3, 1, 4, 1), sample(3, 2, 9, 1), sample(3, 3, 10, 1)
	for _, k := range []struct {
		why     string
		l, want []api.Item
	}{
		{"hides none: all are newer", list(tomb(3, 3), a, b, c), list(tomb(3, 3), a, b, c)},
		{"hides one of its own Version", list(tomb(3, 4), a, b, c), list(tomb(3, 4), b, c)},
		{"hides one", list(tomb(3, 8), a, b, c), list(tomb(3, 8), b, c)},
		{"hides two", list(tomb(3, 9), a, b, c), list(tomb(3, 9), c)},
		{"hides all", list(tomb(3, 10), a, b, c), list(tomb(3, 10))},
		{"hides all, by far", list(tomb(3, 1<<48), a, b, c), list(tomb(3, 1<<48))},
		{"hides none: there is none", list(tomb(3, 10)), list(tomb(3, 10))},
		{"the first Version", list(tomb(3, 1), sample(3, 0, 1, 5), sample(3, 1, 2, 5)), list(tomb(3, 1), sample(3, 1, 2, 5))},
		{"the last Versions", list(tomb(3, 1<<48-1), sample(3, 0, 1<<48-1, 5), sample(3, 1, 1<<48, 5)), list(tomb(3, 1<<48-1), sample(3, 1, 1<<48, 5))},
		{"the middle one", list(tomb(3, 9), c, sample(3, 4, 9, 1), sample(3, 5, 10, 1)), list(tomb(3, 9), c, sample(3, 5, 10, 1))},
		{"none of the series ahead", list(sample(2, 1, 4, 1), tomb(3, 9), a), list(sample(2, 1, 4, 1), tomb(3, 9))},
		{"none of the series behind", list(tomb(3, 9), a, sample(4, 1, 4, 1)), list(tomb(3, 9), sample(4, 1, 4, 1))},
		{"none of any other series", list(sample(0, 0, 1, 1), tomb(3, 9), sample(4, 0, 1, 1), sample(255, 0, 1, 1)), list(sample(0, 0, 1, 1), tomb(3, 9), sample(4, 0, 1, 1), sample(255, 0, 1, 1))},
		{"each its own series", list(tomb(2, 4), sample(2, 1, 4, 1), sample(2, 2, 5, 1), tomb(3, 9), a, b, c, tomb(4, 1), sample(4, 1, 2, 1)), list(tomb(2, 4), sample(2, 2, 5, 1), tomb(3, 9), c, tomb(4, 1), sample(4, 1, 2, 1))},
		{"no delete by another", list(tomb(2, 9), tomb(3, 4), tomb(4, 9)), list(tomb(2, 9), tomb(3, 4), tomb(4, 9))},
		{"the ends of Series", list(tomb(0, 5), sample(0, 1, 5, 1), tomb(255, 5), sample(255, 1, 5, 1)), list(tomb(0, 5), tomb(255, 5))},
	} {
		want(t, k.why, cleaned(t, k.l), k.want)
		want(t, k.why+", again", cleaned(t, k.want), k.want)
	}
}

// What Clean says holds of a list in any order, and of items that may not be.
func TestCleanByItsWordsAlone(t *testing.T) {
	for _, k := range []struct {
		why     string
		l, want []api.Item
	}{
		{"the delete behind", list(sample(1, 1, 5, 1), tomb(1, 5)), list(tomb(1, 5))},
		{"the delete amid", list(sample(1, 1, 5, 1), sample(1, 2, 6, 1), tomb(1, 5), sample(1, 0, 4, 1)), list(sample(1, 2, 6, 1), tomb(1, 5))},
		{"two deletes, the greater first", list(tomb(1, 5), tomb(1, 3), sample(1, 1, 4, 1)), list(tomb(1, 5), tomb(1, 3))},
		{"two deletes, the greater last", list(tomb(1, 3), sample(1, 1, 4, 1), tomb(1, 5)), list(tomb(1, 3), tomb(1, 5))},
		{"one twice", list(sample(1, 1, 4, 1), sample(1, 1, 4, 1)), list(sample(1, 1, 4, 1), sample(1, 1, 4, 1))},
		{"falling", list(sample(2, 1, 4, 1), sample(1, 1, 4, 1), tomb(0, 9)), list(sample(2, 1, 4, 1), sample(1, 1, 4, 1), tomb(0, 9))},
		{"deletes with a Time", list(tomb(1, 3), api.Item{Series: 1, Kind: api.ITomb, Time: 7, Version: 5}, sample(1, 1, 5, 1)), list(tomb(1, 3), api.Item{Series: 1, Kind: api.ITomb, Time: 7, Version: 5})},
		{"a Version of 0", list(tomb(1, 0), sample(1, 1, 0, 1), sample(1, 2, 1, 1)), list(tomb(1, 0), sample(1, 2, 1, 1))},
		{"a Version of 0, no delete", list(sample(0, 1, 0, 1), sample(1, 1, 0, 1)), list(sample(0, 1, 0, 1), sample(1, 1, 0, 1))},
		{"the greatest number", list(tomb(-9, math.MaxUint64), sample(-9, 1, math.MaxUint64, 1), sample(-8, 1, 1, 1)), list(tomb(-9, math.MaxUint64), sample(-8, 1, 1, 1))},
		{"a kind of its own", list(tomb(1, 9), api.Item{Series: 1, Kind: 3, Version: 1}), list(tomb(1, 9), api.Item{Series: 1, Kind: 3, Version: 1})},
		{"no delete at all", list(api.Item{}, api.Item{}), list(api.Item{}, api.Item{})},
		{"Series that are the same in a byte", list(tomb(1, 9), sample(257, 1, 1, 1)), list(tomb(1, 9), sample(257, 1, 1, 1))},
	} {
		want(t, k.why, cleaned(t, k.l), k.want)
	}
}

func TestWithout(t *testing.T) {
	l := list(sample(0, 1, 4, 1), tomb(3, 9), sample(3, 1, 4, 1), sample(3, 2, 9, 1), sample(3, 3, 10, 1), tomb(4, 7), tomb(5, 11), sample(5, 0, 11, 1))
	for _, k := range []struct {
		v    uint64
		want []api.Item
	}{
		{0, list(l[0], l[1], l[4], l[5], l[6])},
		{1, list(l[0], l[1], l[4], l[5], l[6])},
		{6, list(l[0], l[1], l[4], l[5], l[6])},
		{7, list(l[0], l[1], l[4], l[6])},
		{8, list(l[0], l[1], l[4], l[6])},
		// The delete goes, and what it hid goes with it.
		{9, list(l[0], l[4], l[6])},
		{10, list(l[0], l[4], l[6])},
		{11, list(l[0], l[4])},
		{12, list(l[0], l[4])},
		{1 << 48, list(l[0], l[4])},
		{math.MaxUint64, list(l[0], l[4])},
	} {
		want(t, "Without", without(t, l, k.v), k.want)
	}
}

// Samples go by what hides them, never by v.
func TestWithoutLeavesSamples(t *testing.T) {
	l := list(sample(0, 1, 1, 1), sample(1, 1, 5, 1), sample(255, 1, 1<<48, 1))
	for _, v := range []uint64{0, 1, 5, 1 << 48, math.MaxUint64} {
		want(t, "samples", without(t, l, v), l)
	}
}

func TestWithoutAtTheEnds(t *testing.T) {
	first, last := tomb(0, 1), tomb(255, 1<<48)
	want(t, "below the first", without(t, list(first, last), 0), list(first, last))
	want(t, "at the first", without(t, list(first, last), 1), list(last))
	want(t, "below the last", without(t, list(first, last), 1<<48-1), list(last))
	want(t, "at the last", without(t, list(first, last), 1<<48), nil)
	want(t, "behind its samples", without(t, list(sample(1, 1, 5, 1), tomb(1, 5)), 5), nil)
	want(t, "a greater one stays", without(t, list(tomb(1, 3), sample(1, 1, 4, 1), tomb(1, 5)), 3), list(tomb(1, 5)))
}
