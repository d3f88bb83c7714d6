package table

import (
	"bytes"
	"crypto/sha256"
	"encoding/hex"
	"fmt"
	"math"
	"slices"
	"testing"

	"clepsydra/api"
	"clepsydra/block"
	"clepsydra/bloom"
	"clepsydra/frame"
	"clepsydra/item"
	"clepsydra/num"
)

// 12.1, Make

// These bytes, and the sums of the long ones, were worked out by another
// program.
func TestMakeWritesTheseBytes(t *testing.T) {
	times := make([]api.Item, 21)
	for i := range times {
		times[i] = sample(1, uint64(i), uint64(1+i), int64(-i))
	}
	for _, c := range []struct {
		l    []api.Item
		want string
	}{
		{nil, "03000000fec2452a000000000400000a0c52a75807080000000000000000658dd52005000003782350fd000c001e01fab3"},
		{
			list(tomb(3, 5)),
			"02000006ae8fa1d101030100050074f444700300000715a68ffe0001030100050093e2509c0400000a0c52a758070808044020000281005192ac7505000003782350fd1225015715618f",
		},
		{
			list(tomb(3, 5), sample(3, 300, 6, -1)),
			"0200000c96a743ba0203010005000302ac0206017fec3cce0300000715a68ffe0001030100050093e2509c0400000a0c52a75807082a04602200228300a90f03d905000003782350fd182b02e118d41f",
		},
		{
			list(sample(255, 1<<40, 1<<48, math.MinInt64)),
			"0200001a1187bc8c01ff0280808080802080808080808040ffffffffffffffffff015a3cda400300001baaae92a30001ff0280808080802080808080808040ffffffffffffffffff01bb3be8760400000a0c52a7580708000000000000803f0902e6b505000003782350fd264d016dd1d19d",
		},
		{
			times,
			"0200006538ef37a314010200010001020102010102020303010203040501020405070102050609010206070b010207080d010208090f0102090a1101020a0b1301020b0c1501020c0d1701020d0e1901020e0f1b01020f101d010210111f0102111221010212132301021314259e7d339802000006ae8fa1d101010214152731608a470300000ed97d3d8600010102000100710101021415278ddaed0b0400001d88f1339c071bf7341c3749609f2d11226b77f042c094f4c7e24508a9fdebba2ed9041bd1dd0500000590c4f1db83019d011549f0e070",
		},
	} {
		got, e := made(t, c.l)
		if e != api.OK || hex.EncodeToString(got) != c.want {
			t.Errorf("Make of %v is %x, %v", c.l, got, e)
		}
		reads(t, "back", got, c.l)
	}
	for _, c := range []struct {
		l    []api.Item
		size int
		want string
	}{
		{row(2000), 16425, "a531feb893771c73e2f595f8f7ef8b36bc2b7444870687ccb23d4ba1c450a0b6"},
		{widest(2000), 56714, "6b6214f2dce85849eebd3f23a7993c9bb7271d9acf8aa046a812014580abafe4"},
	} {
		got, e := made(t, c.l)
		if e != api.OK || len(got) != c.size || fmt.Sprintf("%x", sha256.Sum256(got)) != c.want {
			t.Errorf("Make of %.2v and so on is %d bytes, %v", c.l, len(got), e)
		}
		reads(t, "back", got, c.l)
	}
}

// frameAt takes the frame at the place at, which must be of that kind.
func frameAt(t *testing.T, b []byte, at, kind int) (body []byte, next int) {
	t.Helper()
	k, body, next, e := frame.Take(b, at)
	if e != api.OK || k != kind {
		t.Fatalf("at %d stands the kind %d, %v, not %d", at, k, e, kind)
	}
	return body, next
}

func TestMakeFrameByFrame(t *testing.T) {
	for _, n := range []int{0, 1, 2, 19, 20, 21, 39, 40, 41, 60, 61, 127, 128, 400, 1999, 2000} {
		for _, l := range [][]api.Item{row(n), widest(n)} {
			b, e := made(t, l)
			if e != api.OK {
				t.Fatalf("Make of %d is %v", n, e)
			}
			at := 0
			var index []byte
			for i := 0; i < n; i += 20 {
				r, next, e := block.Take(b, at)
				if e != api.OK || !slices.Equal(r, l[i:min(i+20, n)]) {
					t.Fatalf("of %d, the block at %d is %v, %v", n, at, r, e)
				}
				index = num.Put(index, uint64(at))
				index, _ = item.Bytes(index, l[i:i+1])
				at = next
			}
			filter, _ := bloom.New(n, 10)
			for _, x := range l {
				filter.Add(item.Key(x))
			}
			third, fourth := frameAt(t, b, at, 3)
			body, fifth := frameAt(t, b, fourth, 4)
			end, last := frameAt(t, b, fifth, 5)
			if !bytes.Equal(third, index) {
				t.Errorf("of %d, the index is %.40x, not %.40x", n, third, index)
			}
			if !bytes.Equal(body, filter.Bytes()) {
				t.Errorf("of %d, the Filter is %.40x", n, body)
			}
			if want := num.Put(num.Put(num.Put(nil, uint64(at)), uint64(fourth)), uint64(n)); !bytes.Equal(end, want) || last != len(b) {
				t.Errorf("of %d, the end is %x, not %x, up to %d of %d", n, end, want, last, len(b))
			}
		}
	}
}

func TestMakeByLength(t *testing.T) {
	makes(t, "nil", nil, api.OK)
	makes(t, "none", list(), api.OK)
	for _, n := range []int{1, 2, 19, 20, 21, 40, 41, 100, 101, 1999, 2000} {
		makes(t, "few enough", row(n), api.OK)
		makes(t, "few enough wide ones", widest(n), api.OK)
	}
	for _, n := range []int{2001, 2002, 2020, 2550} {
		makes(t, "too many", row(n), api.ErrLong)
	}
	makes(t, "too many wide ones", widest(2001), api.ErrLong)
	makes(t, "too many wide ones", widest(5000), api.ErrLong)
}

func TestMakeOfWhatDoesNotRise(t *testing.T) {
	for _, n := range []int{2, 3, 20, 21, 40, 41, 45} {
		// At the border of blocks as well: between the 20th and the 21st.
		for i := 1; i < n; i++ {
			same := row(n)
			same[i] = same[i-1]
			makes(t, "one twice", same, api.ErrArg)
			same[i].Version++
			makes(t, "two that are the Same", same, api.ErrArg)
			turned := row(n)
			turned[i-1], turned[i] = turned[i], turned[i-1]
			makes(t, "the other way round", turned, api.ErrArg)
		}
	}
	for _, i := range []int{1, 20, 999, 1000, 1980, 1999} {
		same := row(2000)
		same[i] = same[i-1]
		makes(t, "one twice", same, api.ErrArg)
		turned := row(2000)
		turned[i-1], turned[i] = turned[i], turned[i-1]
		makes(t, "the other way round", turned, api.ErrArg)
	}
	turned := row(2000)
	slices.Reverse(turned)
	makes(t, "turned round", turned, api.ErrArg)
	// Each block rises, and each begins behind the first of the one ahead.
	l := row(60)
	makes(t, "blocks that overlap", slices.Concat(l[:20], l[10:30]), api.ErrArg)
	makes(t, "a block twice", slices.Concat(l[:20], l[:20]), api.ErrArg)
	makes(t, "blocks the other way round", slices.Concat(l[:20], l[40:], l[20:40]), api.ErrArg)
}

// Each of the three that Less goes by must rise where those ahead of it stand.
func TestMakeOfWhatRisesByEachField(t *testing.T) {
	for _, c := range []struct {
		a, b api.Item
		want api.Errno
	}{
		{sample(1, 5, 5, 5), sample(2, 5, 5, 5), api.OK},
		{sample(1, 1<<40, 9, 5), tomb(2, 1), api.OK},
		{sample(2, 0, 1, 1), sample(1, 9, 9, 9), api.ErrArg},
		{tomb(1, 9), sample(1, 0, 1, -1), api.OK},
		{sample(1, 0, 1, -1), tomb(1, 9), api.ErrArg},
		{sample(1, 5, 9, 9), sample(1, 6, 1, 1), api.OK},
		{sample(1, 1<<40-1, 9, 9), sample(1, 1<<40, 1, 1), api.OK},
		{sample(1, 6, 1, 1), sample(1, 5, 9, 9), api.ErrArg},
		{sample(1, 5, 1, 1), sample(1, 5, 2, 1), api.ErrArg},
		{sample(1, 5, 1, 1), sample(1, 5, 1, 2), api.ErrArg},
		{tomb(1, 1), tomb(1, 2), api.ErrArg},
		{tomb(1, 1), tomb(2, 1), api.OK},
	} {
		makes(t, "two", list(c.a, c.b), c.want)
		// The same two, over the border of blocks.
		ahead := make([]api.Item, 19)
		for i := range ahead {
			ahead[i] = sample(0, uint64(i), 1, 1)
		}
		makes(t, "over the border", append(ahead, c.a, c.b), c.want)
	}
}

// A delete ahead of samples that it hides is none of a table's business.
func TestMakeOfWhatIsHidden(t *testing.T) {
	l := list(tomb(3, 9), sample(3, 0, 1, 1), sample(3, 1, 9, 1))
	makes(t, "hidden", l, api.OK)
	reads(t, "hidden", written(l...), l)
}

func TestMakeOfWhatMayNotBe(t *testing.T) {
	for _, x := range bad() {
		makes(t, "alone", list(x), api.ErrArg)
		makes(t, "first", list(x, high()), api.ErrArg)
		makes(t, "within", list(low(), x, high()), api.ErrArg)
		makes(t, "last", list(low(), x), api.ErrArg)
		for _, n := range []int{18, 19, 20, 39, 40, 1998} {
			ahead := make([]api.Item, n)
			for i := range ahead {
				ahead[i] = sample(1, uint64(i), 1, 1)
			}
			makes(t, "behind many", append(slices.Clone(ahead), x), api.ErrArg)
			makes(t, "among many", append(ahead, x, high()), api.ErrArg)
		}
	}
	below, above := badSeries()
	for _, x := range below {
		makes(t, "alone", list(x), api.ErrArg)
		makes(t, "first", list(x, low(), high()), api.ErrArg)
		makes(t, "ahead of many", append(list(x), row(40)...), api.ErrArg)
	}
	for _, x := range above {
		makes(t, "alone", list(x), api.ErrArg)
		makes(t, "last", list(low(), high(), x), api.ErrArg)
		makes(t, "behind many", append(row(40), x), api.ErrArg)
	}
	makes(t, "the zero item", list(api.Item{}), api.ErrArg)
	makes(t, "and none of them", list(low(), high()), api.OK)
}

func TestMakeOfTooManyThatAreWrongBesides(t *testing.T) {
	turned := row(2001)
	slices.Reverse(turned)
	makes(t, "turned round", turned, api.ErrLong)
	makes(t, "the Same", slices.Repeat(row(1), 2001), api.ErrLong)
	makes(t, "zero items", make([]api.Item, 2001), api.ErrLong)
	for _, x := range bad() {
		for _, at := range []int{0, 1000, 2000} {
			makes(t, "one that may not be", slices.Insert(row(2000), at, x), api.ErrLong)
		}
	}
}
