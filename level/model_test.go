package level

import (
	"encoding/binary"
	"math/big"
	"math/rand/v2"
	"slices"
	"testing"

	"clepsydra/api"
)

// The second hand: each call by the words of 17.1.

func plainTouch(a, b api.Held) bool {
	if a.Len == 0 || b.Len == 0 {
		return false
	}
	aIsAhead := string(a.Last) < string(b.First)
	bIsAhead := string(b.Last) < string(a.First)
	return !(aIsAhead || bIsAhead)
}

func plainOver(files []api.Held) []int {
	var over []int
	if len(onLevel(files, 0)) >= 4 {
		over = append(over, 0)
	}
	for level, most := range []int64{1: 200, 2: 2000} {
		items := new(big.Int)
		for _, f := range onLevel(files, level) {
			items.Add(items, big.NewInt(int64(f.Len)))
		}
		if level > 0 && items.Cmp(big.NewInt(most)) > 0 {
			over = append(over, level)
		}
	}
	return over
}

func plainPick(files []api.Held) (in []int, to int, ok bool) {
	over := plainOver(files)
	if len(over) == 0 {
		return nil, 0, false
	}
	from := over[0]
	goes := make([]bool, len(files))
	for i, f := range files {
		if f.Level == from {
			goes[i] = true
			if from != 0 {
				break
			}
		}
	}
	along := slices.Clone(goes)
	for i, f := range files {
		for j, g := range files {
			if f.Level == from+1 && goes[j] && plainTouch(f, g) {
				along[i] = true
			}
		}
	}
	for i, f := range files {
		if along[i] {
			in = append(in, f.Num)
		}
	}
	return in, from + 1, true
}

func plainAfter(files []api.Held, in []int, to int, made []api.Held) []api.Held {
	l := slices.DeleteFunc(slices.Clone(files), func(f api.Held) bool { return slices.Contains(in, f.Num) })
	for _, f := range made {
		l = append(l, api.Held{Num: f.Num, Level: to, First: f.First, Last: f.Last, Len: f.Len})
	}
	return l
}

// against holds all calls on these against the second hand.
func against(t *testing.T, files, made []api.Held, in []int, to int) {
	t.Helper()
	wantOver(t, "Over", files, plainOver(files)...)
	if want, toLevel, ok := plainPick(files); ok {
		wantPick(t, "Pick", files, toLevel, want...)
	} else {
		wantNone(t, "Pick", files)
	}
	wantAfter(t, "After", after(t, files, in, to, made), plainAfter(files, in, to, made)...)
	for i := 1; i < len(files); i++ {
		if got := touches(t, files[i-1], files[i]); got != plainTouch(files[i-1], files[i]) {
			t.Errorf("Touch of %v and %v is %v", files[i-1], files[i], got)
		}
	}
	if t.Failed() {
		t.Fatal("of", files, made, in, to)
	}
}

// 17.1

func TestAllAgainstThePlainOnes(t *testing.T) {
	for seed := range uint64(6000) {
		r := rand.New(rand.NewPCG(171, seed))
		pick := anyHeld
		if seed%3 == 0 {
			pick = anyOdd
		}
		in := make([]int, r.IntN(6))
		for i := range in {
			in[i] = r.IntN(14) - 1
		}
		against(t, anyList(r, r.IntN(20), pick), anyList(r, r.IntN(4), pick), in, r.IntN(6)-1)
	}
}

// All lists of up to six files of these kinds.
func TestAllShortLists(t *testing.T) {
	kinds := list(held(1, 0, "b", "d", 1), held(2, 0, "f", "f", 0), held(3, 1, "c", "e", 201), held(4, 1, "g", "h", 150), held(5, 2, "d", "g", 1900), held(6, 3, "a", "f", 9))
	for n := range 7 * 7 * 7 * 7 * 7 * 7 {
		var l []api.Held
		for m := n; m > 0; m /= 7 {
			if m%7 > 0 {
				l = append(l, kinds[m%7-1])
			}
		}
		got, to, ok := Pick(l)
		want, plainTo, plainOk := plainPick(l)
		if !slices.Equal(got, want) || to != plainTo || ok != plainOk || !slices.Equal(Over(l), plainOver(l)) || Done(l) == ok {
			t.Fatalf("Pick of %v is %v, %d, %v, not %v, %d, %v", l, got, to, ok, want, plainTo, plainOk)
		}
	}
}

// 17.3

// read makes files of bytes: small numbers most often, now and then any.
func read(b []byte) []api.Held {
	var l []api.Held
	for len(b) >= 6 {
		f := api.Held{Num: int(b[1] % 16), Level: int(b[2]%6) - 1, Len: int(b[3]) * int(b[4]%12)}
		how, size := b[0], int(b[5]%4)
		b = b[6:]
		if how >= 240 && len(b) >= 8 {
			n := int(binary.LittleEndian.Uint64(b))
			b = b[8:]
			switch how % 3 {
			case 0:
				f.Num = n
			case 1:
				f.Level = n
			case 2:
				f.Len = n
			}
		}
		size = min(size, len(b))
		f.First, b = b[:size], b[size:]
		size = min(int(how%4), len(b))
		f.Last, b = b[:size], b[size:]
		l = append(l, f)
	}
	return l
}

func FuzzNoCallPanics(f *testing.F) {
	f.Add([]byte(nil), []byte(nil), 0, 0, 0)
	f.Add([]byte("\x01\x01\x01\x00\x05\x00\x01\x01\x02\x03\x04\x00\x00\x01\x02\x02\x05\x00\x01\x01\x02\x03\x06\x00"), []byte("\x01\x01\x01\x00\x05\x00"), 1, 2, 3)
	f.Add([]byte("\xf2\x00\x02\x00\x00\x00\xff\xff\xff\xff\xff\xff\xff\x7f\xf2\x01\x02\x00\x00\x00\xff\xff\xff\xff\xff\xff\xff\x7f"), []byte(nil), -1, 1<<62, -1<<63)
	r := rand.New(rand.NewPCG(17, 3))
	for range 200 {
		var b [300]byte
		for i := range b {
			b[i] = byte(r.IntN(256))
		}
		f.Add(b[:r.IntN(200)], b[200:200+r.IntN(100)], r.IntN(16), r.IntN(16), r.IntN(6)-1)
	}
	f.Fuzz(func(t *testing.T, b, c []byte, one, other, to int) {
		// The second hand is slow of long lists.
		files, made := read(b[:min(len(b), 1000)]), read(c[:min(len(c), 1000)])
		against(t, files, made, []int{one, other, one}, to)
		// Where much is made of each Pick, there are very many.
		made = made[:min(len(made), 3)]
		ends(t, files, func([]api.Held) []api.Held { return made })
	})
}
