package item

import (
	"bytes"
	"encoding/binary"
	"encoding/hex"
	"math"
	"slices"
	"testing"

	"clepsydra/api"
)

func sample(series int, time, version uint64, value int64) api.Item {
	return api.Item{Series: series, Kind: api.ISample, Time: time, Version: version, Value: value}
}

func tomb(series int, version uint64) api.Item {
	return api.Item{Series: series, Kind: api.ITomb, Version: version}
}

// The numbers that a field may have, and those around them that it may not,
// each list rising.

func goodSeries() []int { return []int{0, 1, 3, 127, 128, 254, 255} }

func badSeries() []int {
	return []int{math.MinInt, -256, -1, 256, 257, 512, 1 << 32, math.MaxInt}
}

func goodKinds() []int { return []int{1, 2} }

func badKinds() []int {
	return []int{math.MinInt, -255, -2, -1, 0, 3, 4, 255, 256, 257, 258, 1<<32 + 1, math.MaxInt}
}

func goodTimes() []uint64 {
	return []uint64{0, 1, 255, 256, 1<<32 - 1, 1 << 32, 1<<40 - 1, 1 << 40}
}

// minusOne is -1 as a number without a sign has it.
const minusOne = math.MaxUint64

func badTimes() []uint64 { return []uint64{1<<40 + 1, 1 << 41, 1 << 63, minusOne} }

func goodVersions() []uint64 { return []uint64{1, 2, 1 << 32, 1<<48 - 1, 1 << 48} }

func badVersions() []uint64 { return []uint64{0, 1<<48 + 1, 1 << 49, 1 << 63, minusOne} }

func values() []int64 { return []int64{math.MinInt64, -300, -1, 0, 1, 300, math.MaxInt64} }

func allSeries() []int { return join(goodSeries(), badSeries()) }

func allKinds() []int { return join(goodKinds(), badKinds()) }

func allTimes() []uint64 { return join(goodTimes(), badTimes()) }

func allVersions() []uint64 { return join(goodVersions(), badVersions()) }

func join[T int | uint64](a, b []T) []T {
	l := slices.Concat(a, b)
	slices.Sort(l)
	return l
}

// good answers items of every kind that are Ok by 5.1.
func good() []api.Item {
	var l []api.Item
	for _, s := range goodSeries() {
		for _, v := range goodVersions() {
			l = append(l, tomb(s, v))
			for _, time := range goodTimes() {
				for _, x := range values() {
					l = append(l, sample(s, time, v, x))
				}
			}
		}
	}
	return l
}

// bad answers items each of which breaks one of 5.1's bounds and no other.
func bad() []api.Item {
	var l []api.Item
	for _, s := range badSeries() {
		l = append(l, sample(s, 1, 1, 1), tomb(s, 1))
	}
	for _, k := range badKinds() {
		l = append(l, api.Item{Series: 3, Kind: k, Version: 5})
	}
	for _, v := range badVersions() {
		l = append(l, sample(3, 7, v, 1), tomb(3, v))
	}
	for _, time := range badTimes() {
		l = append(l, sample(3, time, 5, 1))
	}
	for _, time := range allTimes()[1:] {
		l = append(l, api.Item{Series: 3, Kind: api.ITomb, Time: time, Version: 5})
	}
	for _, x := range []int64{math.MinInt64, -1, 1, math.MaxInt64} {
		l = append(l, api.Item{Series: 3, Kind: api.ITomb, Version: 5, Value: x})
	}
	return append(l, api.Item{})
}

// 5.1

func TestOkEdges(t *testing.T) {
	for _, x := range good() {
		if !Ok(x) {
			t.Errorf("%+v is Ok", x)
		}
	}
	for _, x := range bad() {
		if Ok(x) {
			t.Errorf("%+v is not Ok", x)
		}
	}
}

func TestOkOfAll(t *testing.T) {
	for _, s := range allSeries() {
		for _, k := range allKinds() {
			for _, time := range allTimes() {
				for _, v := range allVersions() {
					for _, value := range values() {
						x := api.Item{Series: s, Kind: k, Time: time, Version: v, Value: value}
						want := slices.Contains(goodSeries(), s) && slices.Contains(goodVersions(), v) &&
							(k == 2 && slices.Contains(goodTimes(), time) || k == 1 && time == 0 && value == 0)
						if Ok(x) != want {
							t.Fatalf("Ok(%+v) is %v", x, !want)
						}
					}
				}
			}
		}
	}
}

// rising answers items by Series, then Kind, then Time, each place once. Their
// Versions and Values go the other way, which must not matter.
func rising(series, kinds []int, times []uint64) []api.Item {
	var l []api.Item
	for _, s := range series {
		for _, k := range kinds {
			for _, time := range times {
				l = append(l, api.Item{Series: s, Kind: k, Time: time})
			}
		}
	}
	for i := range l {
		l[i].Version = uint64(len(l) - i)
		l[i].Value = int64(-i)
	}
	return l
}

func TestLessAndSame(t *testing.T) {
	rows := [][]api.Item{
		rising(goodSeries(), goodKinds(), goodTimes()),
		rising([]int{math.MinInt, -1, 0, 255, 256, math.MaxInt}, []int{math.MinInt, 0, 1, 2, 3, math.MaxInt}, []uint64{0, 1 << 40, 1 << 63, minusOne}),
	}
	for _, l := range rows {
		for i, a := range l {
			for j, b := range l {
				if Less(a, b) != (i < j) || Same(a, b) != (i == j) {
					t.Fatalf("%+v, %+v: Less %v, Same %v", a, b, Less(a, b), Same(a, b))
				}
			}
		}
	}
}

func TestSameHangsOnThePlaceAlone(t *testing.T) {
	for _, v := range allVersions() {
		for _, w := range allVersions() {
			for _, x := range values() {
				a, b := sample(3, 7, v, 0), sample(3, 7, w, x)
				if Less(a, b) || Less(b, a) || !Same(a, b) || !Same(b, a) {
					t.Fatalf("%+v, %+v stand at one place", a, b)
				}
			}
			if !Same(tomb(3, v), tomb(3, w)) || Same(tomb(3, v), sample(3, 0, w, 0)) || !Less(tomb(3, v), sample(3, 0, w, 0)) {
				t.Fatal("a delete stands ahead of all samples of its Series", v, w)
			}
		}
	}
}

func TestWinsByVersionThenValue(t *testing.T) {
	var l []api.Item
	for _, v := range allVersions() {
		for _, x := range values() {
			l = append(l, sample(3, 7, v, x))
		}
	}
	for i, a := range l {
		for j, b := range l {
			if Wins(a, b) != (i > j) {
				t.Fatalf("Wins(%+v, %+v) is %v", a, b, i <= j)
			}
		}
	}
	if !Wins(tomb(3, 6), tomb(3, 5)) || Wins(tomb(3, 5), tomb(3, 5)) || Wins(tomb(3, 5), tomb(3, 6)) {
		t.Error("of deletes the Version tells")
	}
	if !Wins(sample(1, 1, 6, 0), sample(2, 9, 5, 9)) || !Wins(tomb(1, 6), sample(200, 9, 5, 9)) || Wins(tomb(1, 5), sample(1, 0, 5, 0)) {
		t.Error("no place counts")
	}
}

func TestHides(t *testing.T) {
	for _, c := range []struct {
		t, x api.Item
		want bool
		why  string
	}{
		{tomb(3, 5), sample(3, 9, 4, 1), true, "below"},
		{tomb(3, 5), sample(3, 9, 5, 1), true, "the same"},
		{tomb(3, 5), sample(3, 9, 6, 1), false, "above"},
		{tomb(3, 5), sample(3, 0, 1, math.MinInt64), true, "the least"},
		{tomb(0, 1<<48), sample(0, 1<<40, 1<<48, math.MaxInt64), true, "the greatest"},
		{tomb(255, 1<<48-1), sample(255, 0, 1<<48, 0), false, "the greatest, one above"},
		{tomb(3, 5), sample(2, 9, 4, 1), false, "a Series below"},
		{tomb(3, 5), sample(4, 9, 4, 1), false, "a Series above"},
		{tomb(3, 5), tomb(3, 4), false, "a delete"},
		{tomb(3, 5), tomb(3, 5), false, "itself"},
		{sample(3, 9, 5, 1), sample(3, 9, 4, 1), false, "a sample does not hide"},
		{sample(3, 9, 5, 1), tomb(3, 4), false, "a sample does not hide a delete"},
		{api.Item{Series: 3, Version: 5}, sample(3, 9, 4, 1), false, "by none"},
		{api.Item{Series: 3, Kind: 3, Version: 5}, sample(3, 9, 4, 1), false, "by a Kind that is none"},
		{api.Item{Series: 3, Kind: 257, Version: 5}, sample(3, 9, 4, 1), false, "by a Kind that is none"},
		{tomb(3, 5), api.Item{Series: 3, Version: 4}, false, "none"},
		{tomb(3, 5), api.Item{Series: 3, Kind: 3, Version: 4}, false, "a Kind that is none"},
		{tomb(3, 5), api.Item{Series: 3, Kind: 258, Version: 4}, false, "a Kind that is none"},
	} {
		if Hides(c.t, c.x) != c.want {
			t.Errorf("%s: Hides(%+v, %+v) is %v", c.why, c.t, c.x, !c.want)
		}
	}
}

func TestHidesAtEveryVersion(t *testing.T) {
	l := goodVersions()
	for i, v := range l {
		for j, w := range l {
			for _, time := range goodTimes() {
				if Hides(tomb(3, v), sample(3, time, w, 1)) != (j <= i) {
					t.Fatal("a delete at", v, "a sample at", w)
				}
			}
		}
	}
}

func TestKey(t *testing.T) {
	for _, c := range []struct {
		x    api.Item
		want string
	}{
		{sample(255, 258, 9, 9), "ff020000000000000102"},
		{sample(0, 0, 1, 0), "00020000000000000000"},
		{sample(3, 1<<40, 1<<48, -1), "03020000010000000000"},
		{tomb(7, 5), "07010000000000000000"},
	} {
		if got := hex.EncodeToString(Key(c.x)); got != c.want {
			t.Errorf("Key(%+v) = %s, want %s", c.x, got, c.want)
		}
	}
	for _, x := range good() {
		want := binary.BigEndian.AppendUint64([]byte{byte(x.Series), byte(x.Kind)}, x.Time)
		if got := Key(x); !bytes.Equal(got, want) {
			t.Fatalf("Key(%+v) = %x, want %x", x, got, want)
		}
	}
	for _, x := range bad() {
		if got := Key(x); len(got) != 10 {
			t.Fatalf("Key(%+v) = %x: ten bytes", x, got)
		}
	}
}

// 5.3

func TestKeysStandInTheOrderOfLess(t *testing.T) {
	l := rising(goodSeries(), []int{api.ISample}, goodTimes())
	for _, s := range goodSeries() {
		l = append(l, tomb(s, uint64(300-s)))
	}
	for _, a := range l {
		for _, b := range l {
			order := bytes.Compare(Key(a), Key(b))
			if Less(a, b) != (order < 0) || Same(a, b) != (order == 0) {
				t.Fatalf("%+v, %+v: keys %x, %x", a, b, Key(a), Key(b))
			}
		}
	}
}

// 5.4, and the document's rule 3

func TestKeyIsNewMemory(t *testing.T) {
	x := sample(3, 258, 5, 1)
	a, b := Key(x), Key(x)
	kept := bytes.Clone(b)
	clear(a[:cap(a)])
	if !bytes.Equal(b, kept) || !bytes.Equal(Key(x), kept) {
		t.Error("two keys share memory")
	}
}

func FuzzNoCallPanics(f *testing.F) {
	f.Add(3, 1, uint64(0), uint64(5), int64(0), 3, 2, uint64(9), uint64(4), int64(1))
	f.Add(math.MinInt, math.MaxInt, uint64(minusOne), uint64(minusOne), int64(math.MinInt64), -1, 256, uint64(0), uint64(0), int64(math.MaxInt64))
	f.Fuzz(func(t *testing.T, s, k int, time, v uint64, value int64, s2, k2 int, time2, v2 uint64, value2 int64) {
		a := api.Item{Series: s, Kind: k, Time: time, Version: v, Value: value}
		b := api.Item{Series: s2, Kind: k2, Time: time2, Version: v2, Value: value2}
		if Less(a, b) && Less(b, a) || Wins(a, b) && Wins(b, a) || Hides(a, b) && Hides(b, a) {
			t.Error("both ways", a, b)
		}
		if Same(a, b) != (s == s2 && k == k2 && time == time2) {
			t.Error("Same", a, b)
		}
		if Ok(a) && Ok(b) && Less(a, b) != (bytes.Compare(Key(a), Key(b)) < 0) {
			t.Error("keys", a, b)
		}
		if len(Key(a)) != 10 {
			t.Error("Key", a)
		}
		coded, e := Bytes(nil, []api.Item{a, b})
		if (e == api.OK) != (Ok(a) && Ok(b)) || e != api.OK && (e != api.ErrArg || coded != nil) {
			t.Error("Bytes", a, b, e)
		}
		if back, why := Read(coded); e == api.OK && (why != api.OK || !slices.Equal(back, []api.Item{a, b})) {
			t.Error("Read", a, b, back, why)
		}
	})
}
