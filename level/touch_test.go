package level

import (
	"math"
	"testing"

	"clepsydra/api"
)

// 17.1: Touch

func TestTouch(t *testing.T) {
	for _, c := range []struct {
		why                    string
		first, last, from, end string
		want                   bool
	}{
		{"the same", "c", "f", "c", "f", true},
		{"they meet in the one's last key", "c", "f", "f", "h", true},
		{"they meet in the one's first key", "c", "f", "a", "c", true},
		{"one key each, the same", "c", "c", "c", "c", true},
		{"one key each, another", "c", "c", "d", "d", false},
		{"one key at the beginning", "c", "f", "c", "c", true},
		{"one key at the end", "c", "f", "f", "f", true},
		{"one key within", "c", "f", "d", "d", true},
		{"within", "c", "f", "d", "e", true},
		{"within, up to the end", "c", "f", "d", "f", true},
		{"within, from the beginning", "c", "f", "c", "d", true},
		{"laid across", "c", "f", "e", "h", true},
		{"wholly behind", "c", "f", "g", "h", false},
		{"right behind", "c", "f", "f\x00", "h", false},
		{"wholly ahead", "c", "f", "a", "b", false},
		{"right ahead", "c", "f", "a", "b\xff\xff", false},
		{"empty keys", "", "", "", "", true},
		{"an empty key and another", "", "", "a", "b", false},
		{"an empty key and the first that is not", "", "", "\x00", "\x00", false},
		{"from the empty key on", "", "f", "c", "d", true},
		{"meet in the empty key", "", "f", "", "", true},
		{"a key's beginning, ahead", "cc", "cd", "b", "c", false},
		{"a key's beginning, behind", "b", "c", "cc", "cd", false},
		{"from a key's beginning on", "c", "cd", "cc", "ce", true},
		{"up to a key's beginning", "b", "cc", "c", "c", true},
		{"high bytes are above low ones", "\x7f", "\x80", "\x81", "\xff", false},
		{"high bytes", "\x7f", "\xfe", "\x80", "\xff", true},
		{"a long key", "a", "a\xff\xff\xff\xff\xff\xff\xff\xff\xff", "b", "b", false},
		{"numbers stand by their digits", "10", "19", "2", "3", false},
		// Where a file ends ahead of where it begins, its Last tells what it is ahead
		// of, its First what it is behind, as of others.
		{"turned, from its Last to its First", "f", "c", "c", "f", true},
		{"turned, around it", "f", "c", "a", "z", true},
		{"turned, within it", "f", "c", "d", "e", false},
		{"turned, not up to its First", "f", "c", "c", "e", false},
		{"turned, not from its Last on", "f", "c", "d", "f", false},
		{"turned, not at its First", "f", "c", "a", "c", false},
		{"turned, wholly ahead", "f", "c", "a", "b", false},
		{"turned, wholly behind", "f", "c", "g", "h", false},
		{"both turned, the same", "f", "c", "f", "c", false},
		{"both turned, far apart", "c", "b", "z", "y", false},
	} {
		for _, n := range [][2]int{{1, 1}, {1, 200}, {math.MaxInt, math.MaxInt}} {
			a, b := held(1, 0, c.first, c.last, n[0]), held(2, 1, c.from, c.end, n[1])
			if got := touches(t, a, b); got != c.want {
				t.Errorf("%s: Touch of %v and %v is %v", c.why, a, b, got)
			}
		}
	}
}

func TestTouchOfFilesWithNoItems(t *testing.T) {
	for _, c := range [][2]api.Held{
		{held(1, 0, "c", "f", 0), held(2, 0, "c", "f", 0)},
		{held(1, 0, "c", "f", 0), held(2, 0, "c", "f", 1)},
		{held(1, 0, "", "", 0), held(2, 0, "", "", 1)},
		{held(1, 0, "", "\xff", 0), held(2, 0, "d", "d", math.MaxInt)},
		{held(1, 0, "c", "f", 0), held(2, 0, "c", "f", -1)},
		{held(1, 0, "c", "f", 0), held(2, 0, "g", "h", 1)},
		{{}, {}},
		{{}, held(2, 0, "", "", 1)},
	} {
		if touches(t, c[0], c[1]) {
			t.Errorf("%v and %v Touch", c[0], c[1])
		}
	}
}

// Len 0 is the one that tells of no items: with any other one the keys tell.
func TestTouchOfLenBelowZero(t *testing.T) {
	for _, n := range []int{-1, -200, math.MinInt} {
		for _, m := range []int{-1, 1, math.MaxInt, math.MinInt} {
			if !touches(t, held(1, 0, "c", "f", n), held(2, 0, "f", "g", m)) {
				t.Errorf("of Len %d and %d: false", n, m)
			}
			if touches(t, held(1, 0, "c", "f", n), held(2, 0, "g", "h", m)) {
				t.Errorf("far apart, of Len %d and %d: true", n, m)
			}
		}
	}
}

// Neither Num nor Level counts.
func TestTouchGoesByTheKeysAlone(t *testing.T) {
	for _, num := range []int{math.MinInt, -1, 0, 1, math.MaxInt} {
		for _, level := range []int{math.MinInt, -1, 0, 3, 4, math.MaxInt} {
			if !touches(t, held(num, level, "c", "f", 2), held(1, 0, "e", "g", 2)) || touches(t, held(num, level, "c", "f", 2), held(1, 0, "g", "g", 2)) {
				t.Errorf("Num %d or Level %d counts", num, level)
			}
		}
	}
}

// Nil is an empty key.
func TestTouchOfNilKeys(t *testing.T) {
	none := api.Held{Len: 1}
	if !touches(t, none, none) || !touches(t, none, held(1, 0, "", "", 1)) || touches(t, none, held(1, 0, "\x00", "a", 1)) {
		t.Error("nil is no empty key")
	}
}

// All twos of files with keys that lie close to each other.
func TestTouchOfAllShortKeys(t *testing.T) {
	for _, a := range texts() {
		for _, b := range texts() {
			for _, c := range texts() {
				for _, d := range texts() {
					for _, n := range [][2]int{{1, 1}, {0, 1}, {-1, 1}, {0, 0}} {
						x, y := held(1, 0, a, b, n[0]), held(2, 0, c, d, n[1])
						if got := touches(t, x, y); got != plainTouch(x, y) {
							t.Fatalf("Touch of %v and %v is %v", x, y, got)
						}
					}
				}
			}
		}
	}
}
