package table

import (
	"bytes"
	"math/rand/v2"
	"slices"
	"strings"
	"testing"

	"clepsydra/api"
	"clepsydra/frame"
)

// 12.1, Read; W9

func TestReadOfWhatMakeWrote(t *testing.T) {
	for _, n := range []int{0, 1, 2, 19, 20, 21, 39, 40, 41, 59, 60, 61, 100, 399, 1980, 1981, 1999, 2000} {
		for _, l := range [][]api.Item{row(n), widest(n)} {
			b, e := made(t, l)
			if e != api.OK {
				t.Fatal(n, e)
			}
			reads(t, "back", b, l)
		}
	}
}

func TestReadOfWhatWasCut(t *testing.T) {
	corrupt(t, "nil", nil)
	corrupt(t, "no bytes", []byte{})
	for _, n := range []int{0, 1, 20, 21, 45} {
		b := written(row(n)...)
		for i := range b {
			corrupt(t, "cut", b[:i])
			corrupt(t, "without its beginning", b[i+1:])
		}
		for _, s := range [][]byte{{0}, {2}, {5}, {0xff}, b, text(30), framed(5, nil), framed(2, coded(row(1)...))} {
			corrupt(t, "with more ahead", join(s, b))
			corrupt(t, "with more behind", join(b, s))
		}
		reads(t, "whole", b, row(n))
	}
}

func TestReadOfFramesInAnotherOrder(t *testing.T) {
	for _, n := range []int{0, 1, 21} {
		frames := sheetOf(twenties(row(n))...).frames()
		whole := join(frames...)
		seen := 0
		var lay func(left [][]byte, b []byte)
		lay = func(left [][]byte, b []byte) {
			if len(left) == 0 && bytes.Equal(b, whole) {
				reads(t, "its order", b, row(n))
				seen++
			} else if len(left) == 0 {
				corrupt(t, "another order", b)
				seen++
			}
			for i, f := range left {
				lay(slices.Delete(slices.Clone(left), i, i+1), join(b, f))
			}
		}
		lay(frames, nil)
		if want := []int{1, 1, 2, 6, 24, 120}[len(frames)]; seen != want {
			t.Errorf("of %d, %d orders were seen", n, seen)
		}
	}
}

// The Filter ahead of the index, and an end that tells where they stand.
func TestReadOfFramesThatTellTheirOtherOrder(t *testing.T) {
	for _, n := range []int{0, 1, 21, 60} {
		s := sheetOf(twenties(row(n))...)
		items, index, filter := join(s.blocks...), framed(3, s.index), framed(4, s.filter)
		third := len(items) + len(filter)
		corrupt(t, "the Filter ahead", join(items, filter, index, framed(5, numbers(third, len(items), n))))
		corrupt(t, "told in their order", join(items, filter, index, framed(5, numbers(len(items), third, n))))
		if n > 0 {
			end := framed(5, numbers(0, len(index), n))
			corrupt(t, "the index ahead of all", join(index, filter, items, end))
		}
		reads(t, "as it was", s.bytes(), row(n))
	}
}

func TestReadOfFramesThatAreGoneOrDoubled(t *testing.T) {
	for _, n := range []int{0, 1, 20, 21, 60} {
		frames := sheetOf(twenties(row(n))...).frames()
		for i, f := range frames {
			corrupt(t, "one is gone", join(slices.Delete(slices.Clone(frames), i, i+1)...))
			corrupt(t, "one is doubled", join(slices.Insert(slices.Clone(frames), i, f)...))
			corrupt(t, "one is behind", join(append(slices.Clone(frames), f)...))
			for _, kind := range []int{1, 2, 3, 4, 5, 6, 100} {
				corrupt(t, "another one between", join(slices.Insert(slices.Clone(frames), i, framed(kind, nil))...))
			}
		}
	}
}

func TestReadOfFramesOfAnotherKind(t *testing.T) {
	for _, n := range []int{0, 21} {
		frames := sheetOf(twenties(row(n))...).frames()
		for i, f := range frames {
			body := f[8 : len(f)-4]
			for kind := range 256 {
				if kind == int(f[0]) {
					continue
				}
				other := slices.Clone(frames)
				other[i] = framed(kind, body)
				corrupt(t, "another kind", join(other...))
			}
		}
	}
}

// lies answers sheets whose frames are whole, each of which tells one thing
// otherwise than Make would.
func lies(n int) map[string]sheet {
	l := row(n)
	rows := twenties(l)
	honest := sheetOf(rows...)
	all := map[string]sheet{}
	tell := func(why string, change func(s *sheet)) {
		s := honest
		change(&s)
		all[why] = s
	}
	items, index, filter := len(join(honest.blocks...)), len(framed(3, honest.index)), honest.filter
	tell("the end: no numbers", func(s *sheet) { s.end = nil })
	tell("the end: a number is gone", func(s *sheet) { s.end = numbers(items, items+index) })
	tell("the end: a number more", func(s *sheet) { s.end = numbers(items, items+index, n, n) })
	tell("the end: a byte more", func(s *sheet) { s.end = append(numbers(items, items+index, n), 0) })
	tell("the end: another place of the index", func(s *sheet) { s.end = numbers(items+1, items+index, n) })
	tell("the end: another place of the Filter", func(s *sheet) { s.end = numbers(items, items+index-1, n) })
	tell("the end: the places the other way round", func(s *sheet) { s.end = numbers(items+index, items, n) })
	tell("the end: one item more", func(s *sheet) { s.end = numbers(items, items+index, n+1) })
	tell("the end: one item fewer", func(s *sheet) { s.end = numbers(items, items+index, n-1) })
	tell("the end: 2,001 items", func(s *sheet) { s.end = numbers(items, items+index, 2001) })
	tell("the end: 2^64 - 1 items", func(s *sheet) { s.end = numbers(items, items+index, -1) })
	tell("the end: 2^64 - 1 as a place", func(s *sheet) { s.end = numbers(-1, items+index, n) })
	tell("the end: a number with a nought", func(s *sheet) {
		s.end = numbers(items, items+index, n)
		s.end[len(s.end)-1] |= 0x80
		s.end = append(s.end, 0)
	})
	tell("the index: a byte more", func(s *sheet) { s.index = join(s.index, []byte{0}) })
	tell("the index: a block more", func(s *sheet) { s.index = join(s.index, number(items), coded(sample(200, 1, 1, 1))) })
	tell("the index: a place alone", func(s *sheet) { s.index = join(s.index, number(items)) })
	tell("the Filter: nothing", func(s *sheet) { s.filter = nil })
	tell("the Filter: cut", func(s *sheet) { s.filter = filter[:len(filter)-1] })
	tell("the Filter: a byte more", func(s *sheet) { s.filter = join(filter, []byte{0}) })
	tell("the Filter: 9 bits each", func(s *sheet) { s.filter = filtered(n, 9, l) })
	tell("the Filter: 11 bits each", func(s *sheet) { s.filter = filtered(n, 11, l) })
	tell("the Filter: of more", func(s *sheet) { s.filter = filtered(n+10, 10, l) })
	tell("the Filter: another k", func(s *sheet) { s.filter = join([]byte{8}, filter[1:]) })
	tell("the Filter: one that is not there", func(s *sheet) { s.filter = filtered(n, 10, append(l, sample(200, 1, 1, 1))) })
	if n > 0 {
		second := rows[len(rows)-1][0]
		at := items - len(honest.blocks[len(rows)-1])
		short := honest.index[:len(honest.index)-len(number(at))-len(coded(second))]
		last := func(place int, first ...api.Item) func(s *sheet) {
			return func(s *sheet) { s.index = join(short, number(place), coded(first...)) }
		}
		later := second
		later.Version++
		tell("the index: nothing", func(s *sheet) { s.index = nil })
		tell("the index: a block is gone", func(s *sheet) { s.index = short })
		tell("the index: another place", last(at+1, second))
		tell("the index: 2^64 - 1 as a place", last(-1, second))
		tell("the index: another first item", last(at, sample(200, 1, 1, 1)))
		tell("the index: another Version", last(at, later))
		tell("the index: two items", last(at, second, sample(200, 1, 1, 1)))
		tell("the index: no items", last(at))
		tell("the index: an item that may not be", last(at, sample(second.Series, 1, 0, 1)))
		tell("the Filter: without the last", func(s *sheet) { s.filter = filtered(n, 10, l[:n-1]) })
		tell("the Filter: without any", func(s *sheet) { s.filter = filtered(n, 10, nil) })
	}
	return all
}

func TestReadOfFramesThatTellSomethingElse(t *testing.T) {
	for _, n := range []int{0, 1, 20, 21, 60, 61, 200} {
		said := written(row(n)...)
		seen := 0
		for why, s := range lies(n) {
			if bytes.Equal(s.bytes(), said) {
				// Of few items a Filter of more may be the same one.
				continue
			}
			seen++
			if _, _, end, e := frame.Split(s.bytes()); e != api.OK {
				t.Fatalf("%s: no frame at %d: %v", why, end, e)
			}
			corrupt(t, why, s.bytes())
			// It lies no less where the end tells the places as they are.
			if !strings.HasPrefix(why, "the end") {
				s.end = numbers(len(join(s.blocks...)), len(join(s.blocks...))+len(framed(3, s.index)), n)
				corrupt(t, why+", told at the end", s.bytes())
			}
		}
		if seen < 18 {
			t.Errorf("of %d, only %d were told", n, seen)
		}
		reads(t, "as it was", said, row(n))
	}
}

func TestReadOfBlocksThatAreNotFull(t *testing.T) {
	l := row(210)
	for _, sizes := range [][]int{
		{1, 1}, {1, 20}, {5, 5}, {5, 20}, {19, 1}, {19, 2}, {10, 10, 1}, {20, 19, 1}, {20, 1, 20}, {20, 19, 20},
		{21}, {22}, {40}, {100}, {20, 21}, {21, 20}, {20, 20, 21}, {20, 40}, {100, 100}, {0}, {20, 0}, {0, 20}, {101}, {20, 20, 0, 5},
	} {
		var rows [][]api.Item
		at := 0
		for _, n := range sizes {
			rows = append(rows, l[at:at+n])
			at += n
		}
		corrupt(t, "not as Make fills them", sheetOf(rows...).bytes())
		reads(t, "as Make fills them", written(l[:at]...), l[:at])
	}
}

func TestReadOfBlocksThatDoNotRise(t *testing.T) {
	l := row(60)
	other := slices.Clone(l[19:39])
	other[0].Version++
	for why, rows := range map[string][][]api.Item{
		"the other way round":        {l[20:40], l[:20]},
		"at the end":                 {l[:20], l[40:60], l[20:40]},
		"a block twice":              {l[:20], l[:20]},
		"two that are the Same":      {l[:20], l[19:39]},
		"another Version":            {l[:20], other},
		"they overlap":               {l[:20], l[10:30]},
		"one at the end":             {l[:20], l[20:40], l[:1]},
		"the last once more":         {l[:20], l[19:20]},
		"one that may not be":        {l[:20], list(sample(7, 1, 0, 1))},
		"one that may not be, alone": {list(tomb(7, 0))},
		"a block that does not rise": {slices.Concat(l[1:2], l[:1], l[2:20])},
		"one twice in a block":       {slices.Concat(l[:19], l[18:19])},
	} {
		corrupt(t, why, sheetOf(rows...).bytes())
	}
	reads(t, "rising", sheetOf(l[:20], l[20:40], l[40:]).bytes(), l)
}

func TestReadOfTooMany(t *testing.T) {
	reads(t, "2,000", written(row(2000)...), row(2000))
	for _, n := range []int{2001, 2020, 2021, 2550} {
		corrupt(t, "too many", written(row(n)...))
	}
	corrupt(t, "too many wide ones", written(widest(2001)...))
	corrupt(t, "blocks of 100", sheetOf(slices.Collect(slices.Chunk(row(2500), 100))...).bytes())
	corrupt(t, "blocks without an end", bytes.Repeat(framed(2, coded(row(20)...)), 3000))
}

func TestReadOfJunk(t *testing.T) {
	for n := range 200 {
		corrupt(t, "text", text(n))
		corrupt(t, "noughts", make([]byte, n))
		corrupt(t, "ones", bytes.Repeat([]byte{0xff}, n))
		corrupt(t, "a frame", framed(1+n%7, text(n)))
		corrupt(t, "three frames", join(framed(3, text(n)), framed(4, text(n)), framed(5, text(n))))
	}
	corrupt(t, "no bodies", join(framed(3, nil), framed(4, nil), framed(5, nil)))
	corrupt(t, "60,000 bytes", join(framed(3, nil), framed(4, make([]byte, 60000)), framed(5, nil)))
}

// 12.2

func TestTheSameItemsAreTheSameTable(t *testing.T) {
	for _, n := range []int{0, 1, 20, 21, 61} {
		b, _ := Make(row(n))
		x, e := Read(b)
		if e != api.OK {
			t.Fatal(n, e)
		}
		if again, e := Make(x.All()); e != api.OK || !bytes.Equal(again, b) {
			t.Errorf("of %d, made again: %v", n, e)
		}
	}
}

// found fails where the bytes of a table with those bits turned are taken.
func found(t *testing.T, b []byte, bits ...int) {
	t.Helper()
	for _, bit := range bits {
		turn(b, bit)
	}
	if x, e := Read(b); e != api.ErrCorrupt || x != nil {
		t.Fatalf("bits %v of %d bytes: %v", bits, len(b), e)
	}
	for _, bit := range bits {
		turn(b, bit)
	}
}

func TestOneBitThatIsTurnedIsFound(t *testing.T) {
	for _, l := range [][]api.Item{nil, row(1), row(21), widest(41)} {
		b := written(l...)
		for bit := range 8 * len(b) {
			found(t, b, bit)
		}
		reads(t, "turned back", b, l)
	}
}

func TestAnyTwoBitsThatAreTurnedInOneFrameAreFound(t *testing.T) {
	for _, l := range [][]api.Item{nil, row(1), widest(1), row(2)} {
		b := written(l...)
		at := 0
		for _, f := range sheetOf(twenties(l)...).frames() {
			for i := range 8 * len(f) {
				for j := range i {
					found(t, b, 8*at+i, 8*at+j)
				}
			}
			at += len(f)
		}
	}
}

func TestAnyThreeBitsThatAreTurnedInOneFrameAreFound(t *testing.T) {
	b := written()
	at := 0
	for _, f := range sheetOf().frames() {
		for i := range 8 * len(f) {
			for j := range i {
				for k := range j {
					found(t, b, 8*at+i, 8*at+j, 8*at+k)
				}
			}
		}
		at += len(f)
	}
}

// somePlaces answers up to three numbers below n, no two of them the same.
func somePlaces(r *rand.Rand, n int) []int {
	l := []int{r.IntN(n), r.IntN(n), r.IntN(n)}[:1+r.IntN(3)]
	slices.Sort(l)
	return slices.Compact(l)
}

func TestBitsThatAreTurnedInOneFrameOfLongTables(t *testing.T) {
	r := rand.New(rand.NewPCG(12, 2))
	for _, c := range []struct {
		l     []api.Item
		tries int
	}{{row(21), 1000}, {row(61), 500}, {widest(400), 40}, {widest(2000), 3}} {
		b := written(c.l...)
		at := 0
		for _, f := range sheetOf(twenties(c.l)...).frames() {
			for range c.tries {
				bits := somePlaces(r, 8*len(f))
				for i := range bits {
					bits[i] += 8 * at
				}
				found(t, b, bits...)
			}
			at += len(f)
		}
		reads(t, "turned back", b, c.l)
	}
}
