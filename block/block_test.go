package block

import (
	"bytes"
	"encoding/hex"
	"math"
	"math/rand/v2"
	"slices"
	"sync"
	"testing"

	"clepsydra/api"
	"clepsydra/frame"
	"clepsydra/item"
)

// 11.1, Put

// These bytes were worked out by another program.
func TestPutWritesTheseBytes(t *testing.T) {
	for _, c := range []struct {
		l    []api.Item
		want string
	}{
		{list(tomb(3, 5)), "02000006ae8fa1d101030100050074f44470"},
		{list(sample(0, 0, 1, 0)), "02000006ae8fa1d101000200010065acdf14"},
		{list(tomb(3, 5), sample(3, 300, 6, -1)), "0200000c96a743ba0203010005000302ac0206017fec3cce"},
		{list(sample(255, 1<<40, 1<<48, math.MinInt64)), "0200001a1187bc8c01ff0280808080802080808080808040ffffffffffffffffff015a3cda40"},
		{
			list(tomb(0, 1), sample(0, 0, 2, math.MaxInt64), sample(0, 1, 1, 1), tomb(1, 1<<48)),
			"020000248771271004000100010000020002feffffffffffffffff01000201010201010080808080808040004bdaee80",
		},
	} {
		for _, ahead := range [][]byte{nil, {}, {0}, []byte("ahead"), text(5000)} {
			want, _ := hex.DecodeString(c.want)
			got, e := put(t, ahead, c.l)
			if e != api.OK || !bytes.Equal(got, join(ahead, want)) {
				t.Errorf("Put(%.20x, %v) is %.60x, %v", ahead, c.l, got, e)
			}
			takes(t, "back", got, len(ahead), c.l, len(got))
		}
	}
}

func TestPutIsTheFrameOfTheItems(t *testing.T) {
	for n := 1; n <= 100; n++ {
		for _, l := range [][]api.Item{row(n), widest(n)} {
			body, _ := item.Bytes(nil, l)
			want, _ := frame.Put([]byte("x"), 2, body)
			if got, e := put(t, []byte("x"), l); e != api.OK || !bytes.Equal(got, want) || !bytes.Equal(got[1:], block(l...)) {
				t.Fatalf("Put of %d is %.40x, %v, not %.40x", n, got, e, want)
			}
		}
	}
}

func TestPutByLength(t *testing.T) {
	refuses(t, "nil", nil, api.ErrArg)
	refuses(t, "none", list(), api.ErrArg)
	refuses(t, "one", row(1), api.OK)
	refuses(t, "two", row(2), api.OK)
	refuses(t, "99", row(99), api.OK)
	refuses(t, "100", row(100), api.OK)
	refuses(t, "100 wide ones", widest(100), api.OK)
	refuses(t, "101", row(101), api.ErrLong)
	refuses(t, "102", row(102), api.ErrLong)
	refuses(t, "2,000", row(2000), api.ErrLong)
	refuses(t, "2,001", row(2001), api.ErrLong)
	refuses(t, "3,000", make([]api.Item, 3000), api.ErrLong)
}

func TestPutOfWhatDoesNotRise(t *testing.T) {
	for _, n := range []int{2, 3, 10, 99, 100} {
		for i := 1; i < n; i++ {
			same := row(n)
			same[i] = same[i-1]
			refuses(t, "one twice", same, api.ErrArg)
			same[i].Version++
			refuses(t, "two that are the Same", same, api.ErrArg)
			turned := row(n)
			turned[i-1], turned[i] = turned[i], turned[i-1]
			refuses(t, "the other way round", turned, api.ErrArg)
		}
		turned := row(n)
		slices.Reverse(turned)
		refuses(t, "turned round", turned, api.ErrArg)
	}
}

// Each of the three that Less goes by must rise where those ahead of it stand.
func TestPutOfWhatRisesByEachField(t *testing.T) {
	for _, c := range []struct {
		a, b api.Item
		want api.Errno
	}{
		{sample(1, 5, 5, 5), sample(2, 5, 5, 5), api.OK},
		{sample(1, 1<<40, 9, 5), tomb(2, 1), api.OK},
		{sample(0, 1, 1, 1), sample(255, 0, 1, 1), api.OK},
		{sample(2, 0, 1, 1), sample(1, 9, 9, 9), api.ErrArg},
		{tomb(2, 1), sample(1, 9, 9, 9), api.ErrArg},
		{tomb(1, 9), sample(1, 0, 1, -1), api.OK},
		{sample(1, 0, 1, -1), tomb(1, 9), api.ErrArg},
		{sample(1, 5, 9, 9), sample(1, 6, 1, 1), api.OK},
		{sample(1, 1<<40-1, 9, 9), sample(1, 1<<40, 1, 1), api.OK},
		{sample(1, 6, 1, 1), sample(1, 5, 9, 9), api.ErrArg},
		{sample(1, 5, 1, 1), sample(1, 5, 2, 1), api.ErrArg},
		{sample(1, 5, 1, 1), sample(1, 5, 1, 2), api.ErrArg},
		{tomb(1, 1), tomb(1, 2), api.ErrArg},
		{tomb(1, 1), tomb(2, 1), api.OK},
	} {
		refuses(t, "two", list(c.a, c.b), c.want)
	}
}

// A delete ahead of samples that it hides is none of a block's business.
func TestPutOfWhatIsHidden(t *testing.T) {
	l := list(tomb(3, 9), sample(3, 0, 1, 1), sample(3, 1, 9, 1))
	b, e := put(t, nil, l)
	if e != api.OK {
		t.Fatal(e)
	}
	takes(t, "hidden", b, 0, l, len(b))
}

func TestPutOfWhatMayNotBe(t *testing.T) {
	for _, x := range bad() {
		refuses(t, "alone", list(x), api.ErrArg)
		refuses(t, "first", list(x, high()), api.ErrArg)
		refuses(t, "within", list(low(), x, high()), api.ErrArg)
		refuses(t, "last", list(low(), x), api.ErrArg)
	}
	below, above := badSeries()
	for _, x := range below {
		refuses(t, "alone", list(x), api.ErrArg)
		refuses(t, "first", list(x, low(), high()), api.ErrArg)
	}
	for _, x := range above {
		refuses(t, "alone", list(x), api.ErrArg)
		refuses(t, "last", list(low(), high(), x), api.ErrArg)
	}
	refuses(t, "the zero item", list(api.Item{}), api.ErrArg)
	refuses(t, "among many", append(row(99), sample(255, 1<<40+1, 1, 1)), api.ErrArg)
}

func TestPutOfTooManyThatAreWrongBesides(t *testing.T) {
	turned := row(101)
	slices.Reverse(turned)
	refuses(t, "turned round", turned, api.ErrLong)
	refuses(t, "the Same", slices.Repeat(row(1), 101), api.ErrLong)
	for _, x := range bad() {
		for _, at := range []int{0, 50, 100} {
			refuses(t, "one that may not be", slices.Insert(row(100), at, x), api.ErrLong)
		}
	}
}

// 11.1, Take

func TestTakeAtAPlaceThatIsNone(t *testing.T) {
	one := block(row(3)...)
	for _, b := range [][]byte{nil, {}, {2}, one, one[:5], join(one, one), text(1000)} {
		above := []int{len(b) + 1, len(b) + 2, len(b) + 1<<32, math.MaxInt - 1, math.MaxInt}
		for _, at := range append(belowZero(), above...) {
			if _, _, e := take(t, b, at); e != api.ErrArg {
				t.Errorf("Take(%.40x, %d) is %v", b, at, e)
			}
		}
		corrupt(t, "at the end", b, len(b))
	}
}

func TestTakeAtEveryPlace(t *testing.T) {
	lists := [][]api.Item{row(1), row(2), widest(3), row(100)}
	for _, ahead := range [][]byte{nil, {2}, {2, 0, 0, 6}, []byte("ahead")} {
		b := bytes.Clone(ahead)
		begins := map[int]int{}
		var ends []int
		for i, l := range lists {
			begins[len(b)] = i
			b, _ = put(t, b, l)
			ends = append(ends, len(b))
		}
		b = append(b, "behind"...)
		for at := range len(b) + 1 {
			if i, ok := begins[at]; ok {
				takes(t, "at its place", b, at, lists[i], ends[i])
			} else {
				corrupt(t, "beside its place", b, at)
			}
		}
	}
}

func TestTakeOfWhatWasCut(t *testing.T) {
	for _, l := range [][]api.Item{row(1), row(2), row(40), widest(1), widest(4)} {
		for _, ahead := range [][]byte{nil, []byte("ahead"), block(row(2)...)} {
			whole := join(ahead, block(l...))
			for n := len(ahead); n < len(whole); n++ {
				corrupt(t, "cut", whole[:n], len(ahead))
			}
			for n := 1; n <= len(whole)-len(ahead); n++ {
				corrupt(t, "without its beginning", join(ahead, whole[len(ahead)+n:]), len(ahead))
			}
			takes(t, "whole", whole, len(ahead), l, len(whole))
			takes(t, "with bytes behind", append(whole, text(40)...), len(ahead), l, len(whole))
		}
	}
	corrupt(t, "nil", nil, 0)
	corrupt(t, "no bytes", []byte{}, 0)
}

func TestTakeOfAFrameOfAnotherKind(t *testing.T) {
	for _, l := range [][]api.Item{row(1), row(3), row(100)} {
		body := coded(len(l), l...)
		for kind := range 256 {
			b := framed(kind, body)
			if kind == 2 {
				takes(t, "its kind", b, 0, l, len(b))
			} else {
				corrupt(t, "another kind", b, 0)
			}
		}
	}
}

// refusedBodies answers bodies that Put does not write, each of a frame that
// package frame takes.
func refusedBodies() map[string][]byte {
	one, all := coded(1, row(1)...), row(101)
	bodies := map[string][]byte{
		"nothing":                 nil,
		"no items":                coded(0),
		"no items, and bytes":     coded(0, row(1)...),
		"101 items":               coded(101, all...),
		"102 items":               coded(102, row(102)...),
		"2,000 items":             coded(2000, row(2000)...),
		"2,001 items":             coded(2001, row(2001)...),
		"fewer than it says":      coded(3, row(2)...),
		"101, it says":            coded(101, row(100)...),
		"2^63, it says":           append([]byte{0x80, 0x80, 0x80, 0x80, 0x80, 0x80, 0x80, 0x80, 0x80, 1}, one[1:]...),
		"above 2^64, it says":     append([]byte{0x80, 0x80, 0x80, 0x80, 0x80, 0x80, 0x80, 0x80, 0x80, 2}, one[1:]...),
		"more than it says":       coded(1, row(2)...),
		"a byte left":             append(coded(2, row(2)...), 0),
		"a list left":             append(coded(2, row(2)...), one...),
		"a byte ahead":            append([]byte{0}, one...),
		"two that are the Same":   coded(2, sample(1, 1, 1, 1), sample(1, 1, 2, 1)),
		"one twice":               coded(2, sample(1, 1, 1, 1), sample(1, 1, 1, 1)),
		"the other way round":     coded(2, sample(1, 2, 1, 1), sample(1, 1, 1, 1)),
		"a sample ahead":          coded(2, sample(1, 0, 1, 1), tomb(1, 1)),
		"a series that falls":     coded(2, tomb(2, 1), tomb(1, 1)),
		"turned at its beginning": coded(100, slices.Concat(all[1:2], all[:1], all[2:100])...),
		"turned at its end":       coded(100, slices.Concat(all[:98], all[99:100], all[98:99])...),
		"the Same at its end":     coded(100, slices.Concat(all[:99], all[98:99])...),
		"a count with a nought":   append([]byte{0x81, 0}, one[1:]...),
		"a time with a nought":    {1, 3, 2, 0x85, 0, 1, 1},
		"a version with a nought": {1, 3, 2, 5, 0x81, 0, 1},
		"a value with a nought":   {1, 3, 2, 5, 1, 0x81, 0},
		"60,000 bytes":            make([]byte, 60000),
	}
	for i := range one {
		bodies["cut at "+string(rune('0'+i))] = one[:i]
	}
	return bodies
}

func TestTakeOfABodyThatPutDoesNotWrite(t *testing.T) {
	bodies := refusedBodies()
	for why, body := range bodies {
		b := framed(2, body)
		if _, _, _, e := frame.Take(b, 0); e != api.OK {
			t.Fatalf("%s: no frame: %v", why, e)
		}
		corrupt(t, why, b, 0)
		corrupt(t, why, join([]byte("ahead"), b, block(row(2)...)), 5)
	}
	if len(bodies) < 30 {
		t.Error("fewer bodies than were told")
	}
}

func TestTakeOfABodyWithWhatMayNotBe(t *testing.T) {
	seen := 0
	for _, x := range bad() {
		if x.Kind != int(byte(x.Kind)) {
			// Its bytes are those of another item, that may be.
			continue
		}
		seen++
		corrupt(t, "alone", block(x), 0)
		corrupt(t, "first", block(x, high()), 0)
		corrupt(t, "within", block(low(), x, high()), 0)
		corrupt(t, "last", block(low(), x), 0)
	}
	if seen < 10 {
		t.Error("too few are bad")
	}
	takes(t, "without them", block(low(), high()), 0, list(low(), high()), len(block(low(), high())))
}

// Each body of few bytes; the shortest that Put writes has six.
func TestTakeOfShortBodies(t *testing.T) {
	for n := range 1 << 16 {
		corrupt(t, "two bytes", framed(2, []byte{byte(n >> 8), byte(n)}), 0)
		if n < 256 {
			corrupt(t, "one byte", framed(2, []byte{byte(n)}), 0)
			corrupt(t, "the same", framed(2, bytes.Repeat([]byte{byte(n)}, 3)), 0)
		}
		if t.Failed() {
			t.FailNow()
		}
	}
}

// 11.1, Cut

func TestCut(t *testing.T) {
	for _, c := range []struct {
		n, most int
		want    []int
	}{
		{5, 2, []int{2, 2, 1}},
		{0, 5, nil}, {0, 0, nil}, {0, math.MinInt, nil}, {0, math.MaxInt, nil}, {0, 1, nil}, {0, 100, nil},
		{1, 1, []int{1}}, {1, 2, []int{1}}, {1, 100, []int{1}}, {1, 101, []int{1}},
		{1, 0, []int{1}}, {1, math.MinInt, []int{1}}, {1, math.MaxInt, []int{1}},
		{3, 1, []int{1, 1, 1}}, {3, 0, []int{1, 1, 1}}, {3, -1, []int{1, 1, 1}}, {3, math.MinInt, []int{1, 1, 1}},
		{4, 2, []int{2, 2}}, {6, 3, []int{3, 3}}, {7, 3, []int{3, 3, 1}}, {8, 3, []int{3, 3, 2}},
		{99, 100, []int{99}}, {100, 100, []int{100}}, {101, 100, []int{100, 1}},
		{100, 99, []int{99, 1}}, {200, 99, []int{99, 99, 2}},
		{100, 101, []int{100}}, {101, 101, []int{100, 1}}, {101, 102, []int{100, 1}},
		{200, 100, []int{100, 100}}, {200, 101, []int{100, 100}}, {201, 1000, []int{100, 100, 1}},
		{250, math.MaxInt, []int{100, 100, 50}}, {250, math.MaxInt - 1, []int{100, 100, 50}},
		{60, 20, []int{20, 20, 20}}, {61, 20, []int{20, 20, 20, 1}}, {59, 20, []int{20, 20, 19}},
	} {
		l := row(c.n)
		rows := cut(t, l, c.most)
		var sizes []int
		for _, r := range rows {
			sizes = append(sizes, len(r))
		}
		if !slices.Equal(sizes, c.want) || !slices.Equal(slices.Concat(rows...), l) {
			t.Errorf("Cut of %d by %d has rows of %v, not %v", c.n, c.most, sizes, c.want)
		}
	}
	if rows := Cut(nil, 3); len(rows) != 0 {
		t.Error("of nil", rows)
	}
}

func TestCutByEveryNumber(t *testing.T) {
	for n := range 210 {
		l := row(n)
		for most := -3; most <= 205; most++ {
			size := most
			if most < 1 {
				size = 1
			} else if most > 100 {
				size = 100
			}
			rows := Cut(l, most)
			if len(rows) != (n+size-1)/size || !slices.Equal(slices.Concat(rows...), l) {
				t.Fatalf("Cut of %d by %d is %d rows", n, most, len(rows))
			}
			for i, r := range rows {
				if last := i == len(rows)-1; len(r) != size && !last || len(r) == 0 || len(r) > size {
					t.Fatalf("Cut of %d by %d: row %d has %d", n, most, i, len(r))
				}
			}
		}
	}
}

// Cut asks neither whether items may be nor whether they rise.
func TestCutOfAnyItems(t *testing.T) {
	l := append(bad(), bad()...)
	slices.Reverse(l)
	if got := slices.Concat(cut(t, l, 5)...); !slices.Equal(got, l) {
		t.Error(got)
	}
}

func TestCutSharesNothing(t *testing.T) {
	l := row(25)
	rows := Cut(l, 10)
	for i := range rows {
		for j := range rows[i] {
			rows[i][j].Value = 99
		}
		_ = append(rows[i], sample(9, 9, 9, 9))
		for k := i + 1; k < len(rows); k++ {
			if !slices.Equal(rows[k], l[10*k:min(10*k+10, 25)]) {
				t.Error("the rows", i, "and", k, "share memory")
			}
		}
	}
	if !slices.Equal(l, row(25)) {
		t.Error("lent")
	}
}

func TestWhatIsCutIsPut(t *testing.T) {
	for _, n := range []int{1, 99, 100, 101, 250} {
		for _, most := range []int{math.MinInt, 1, 20, 100, math.MaxInt} {
			l, at := row(n), 0
			var b []byte
			for _, r := range Cut(l, most) {
				var e api.Errno
				if b, e = Put(b, r); e != api.OK {
					t.Fatalf("Put of a row of %d by %d is %v", n, most, e)
				}
			}
			var back []api.Item
			for at < len(b) {
				r, next, e := take(t, b, at)
				if e != api.OK || next <= at {
					t.Fatalf("Take at %d is %d, %v", at, next, e)
				}
				back, at = append(back, r...), next
			}
			if !slices.Equal(back, l) || at != len(b) {
				t.Errorf("of %d by %d came back %d", n, most, len(back))
			}
		}
	}
}

// 11.1, Find

func TestFindOfWhatIsThere(t *testing.T) {
	for n := 1; n <= 130; n++ {
		l := row(n)
		for i, x := range l {
			for _, change := range []func(x *api.Item){
				func(x *api.Item) {},
				func(x *api.Item) { x.Version++ },
				func(x *api.Item) { x.Version = 0 },
				func(x *api.Item) { x.Version = math.MaxUint64 },
				func(x *api.Item) { x.Value-- },
				func(x *api.Item) { x.Value = math.MaxInt64; x.Version = 1 },
			} {
				asked := x
				change(&asked)
				if got, ok := Find(l, asked); got != l[i] || !ok {
					t.Fatalf("Find of %v in %d, the %d-th, is %v, %v", asked, n, i, got, ok)
				}
			}
		}
		for _, x := range list(l[0], l[n-1]) {
			if got, ok := find(t, l, x); got != x || !ok {
				t.Fatalf("Find of %v in %d is %v, %v", x, n, got, ok)
			}
		}
	}
}

func TestFindOfWhatIsNotThere(t *testing.T) {
	l := list(sample(1, 5, 5, 5), sample(1, 7, 5, 5), tomb(3, 5), sample(3, 0, 9, 9), sample(3, 1<<40, 9, 9), tomb(5, 9))
	for _, x := range list(
		tomb(0, 1), sample(0, 0, 1, 1), sample(0, 1<<40, 1, 1), tomb(1, 5), sample(1, 0, 5, 5), sample(1, 4, 5, 5),
		sample(1, 6, 5, 5), sample(1, 8, 5, 5), tomb(2, 5), sample(2, 5, 5, 5), sample(2, 7, 5, 5), sample(3, 1, 9, 9),
		sample(3, 1<<40-1, 9, 9), sample(3, 1<<40+1, 9, 9), tomb(4, 9), sample(4, 0, 9, 9),
		sample(5, 0, 9, 9), tomb(6, 9), sample(255, 1<<40, 1<<48, 1),
		api.Item{}, api.Item{Series: 1, Time: 5, Version: 5, Value: 5}, api.Item{Series: 1, Kind: 3, Time: 5},
		api.Item{Series: 5, Kind: api.ITomb, Time: 1, Version: 9}, api.Item{Series: 257, Kind: 2, Time: 5, Version: 5, Value: 5},
		api.Item{Series: 1, Kind: 258, Time: 5, Version: 5, Value: 5}, api.Item{Series: math.MinInt}, api.Item{Series: math.MaxInt, Kind: math.MaxInt, Time: math.MaxUint64},
	) {
		for n := range len(l) + 1 {
			if got, ok := find(t, l[:n], x); ok {
				t.Errorf("Find of %v in %d is %v", x, n, got)
			}
			if got, ok := find(t, l[n:], x); ok {
				t.Errorf("Find of %v in all but %d is %v", x, n, got)
			}
		}
	}
	for _, x := range append(row(3), api.Item{}) {
		for _, none := range [][]api.Item{nil, {}, l[:0]} {
			if got, ok := Find(none, x); ok || got != (api.Item{}) {
				t.Errorf("Find of %v in none is %v", x, got)
			}
		}
	}
}

func TestFindBetweenAnyTwo(t *testing.T) {
	all := row(101)
	for gone := range all {
		l := slices.Delete(slices.Clone(all), gone, gone+1)
		for i, x := range all {
			got, ok := Find(l, x)
			if ok != (i != gone) || ok && got != x {
				t.Fatalf("without the %d-th Find of the %d-th is %v, %v", gone, i, got, ok)
			}
		}
	}
}

// 11.2

func TestOneBitThatIsTurnedIsFound(t *testing.T) {
	for _, l := range [][]api.Item{row(1), row(20), widest(100)} {
		b, _ := Put(nil, l)
		for bit := range 8 * len(b) {
			turn(b, bit)
			if got, next, e := Take(b, 0); e != api.ErrCorrupt || got != nil || next != 0 {
				t.Fatalf("of %d items, bit %d: %v", len(l), bit, e)
			}
			turn(b, bit)
		}
		takes(t, "turned back", b, 0, l, len(b))
	}
}

func TestAnyTwoBitsThatAreTurnedAreFound(t *testing.T) {
	for _, l := range [][]api.Item{row(1), widest(1), row(3)} {
		b, _ := Put(nil, l)
		for i := range 8 * len(b) {
			turn(b, i)
			for j := range i {
				turn(b, j)
				if _, _, e := Take(b, 0); e != api.ErrCorrupt {
					t.Fatalf("of %d items, bits %d, %d: %v", len(l), i, j, e)
				}
				turn(b, j)
			}
			turn(b, i)
		}
	}
}

func TestAnyThreeBitsThatAreTurnedAreFound(t *testing.T) {
	b, _ := Put(nil, list(tomb(3, 5)))
	for i := range 8 * len(b) {
		turn(b, i)
		for j := range i {
			turn(b, j)
			for k := range j {
				turn(b, k)
				if _, _, e := Take(b, 0); e != api.ErrCorrupt {
					t.Fatalf("bits %d, %d, %d: %v", i, j, k, e)
				}
				turn(b, k)
			}
			turn(b, j)
		}
		turn(b, i)
	}
}

// somePlaces answers up to three numbers below n, no two of them the same.
func somePlaces(r *rand.Rand, n int) []int {
	l := []int{r.IntN(n), r.IntN(n), r.IntN(n)}[:1+r.IntN(3)]
	slices.Sort(l)
	return slices.Compact(l)
}

func TestBitsThatAreTurnedInLongBlocks(t *testing.T) {
	r := rand.New(rand.NewPCG(11, 2))
	ahead, behind := block(row(2)...), block(row(5)...)
	for _, l := range [][]api.Item{row(20), row(100), widest(100)} {
		whole := join(ahead, block(l...), behind)
		end := len(whole) - len(behind)
		for range 3000 {
			b := bytes.Clone(whole)
			bits := somePlaces(r, 8*(end-len(ahead)))
			for _, bit := range bits {
				turn(b, 8*len(ahead)+bit)
			}
			if _, _, e := Take(b, len(ahead)); e != api.ErrCorrupt {
				t.Fatalf("of %d items, bits %v: %v", len(l), bits, e)
			}
			// Those beside it are not touched.
			takes(t, "ahead", b, 0, row(2), len(ahead))
			takes(t, "behind", b, end, row(5), len(b))
		}
	}
}

// Ways

func TestABlockIsReadOnce(t *testing.T) {
	body := coded(3, row(3)...)
	p := page{body: body}
	if p.items != nil {
		t.Error("read ahead of the first who asks")
	}
	first := p.read()
	clear(body)
	second := p.read()
	if !slices.Equal(first, row(3)) || !slices.Equal(second, row(3)) || &first[0] != &second[0] || !p.fine() {
		t.Error("read again:", first, second)
	}
	none := page{body: coded(2, row(1)...)}
	if l := none.read(); l != nil || none.fine() {
		t.Error("no block:", l)
	}
	copy(none.body, coded(1, row(1)...))
	if l := none.read(); l != nil || none.fine() {
		t.Error("read again:", l)
	}
}

func TestSeveralLookAtOneBlock(t *testing.T) {
	l := row(100)
	b, _ := Put(nil, l)
	p := page{body: coded(len(l), l...)}
	var all sync.WaitGroup
	for i := range 8 {
		all.Go(func() {
			got, next, e := Take(b, 0)
			if e != api.OK || next != len(b) || !slices.Equal(got, l) || !slices.Equal(p.read(), l) {
				t.Error("Take", next, e)
			}
			if again, e := Put(nil, l); e != api.OK || !bytes.Equal(again, b) {
				t.Error("Put", e)
			}
			if x, ok := Find(l, l[i]); !ok || x != l[i] {
				t.Error("Find", x)
			}
		})
	}
	all.Wait()
}
