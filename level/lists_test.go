package level

import (
	"bytes"
	"fmt"
	"math"
	"math/rand/v2"
	"slices"
	"testing"

	"clepsydra/api"
)

func held(num, level int, first, last string, n int) api.Held {
	return api.Held{Num: num, Level: level, First: []byte(first), Last: []byte(last), Len: n}
}

func list(l ...api.Held) []api.Held { return l }

// sized answers files of a level with these many items, none of which Touch, with
// Nums from 1 on.
func sized(level int, lens ...int) []api.Held {
	var l []api.Held
	for i, n := range lens {
		key := fmt.Sprintf("%c%06d", 'a'+level, i)
		l = append(l, held(i+1, level, key, key, n))
	}
	return l
}

func nums(l []api.Held) []int {
	var own []int
	for _, f := range l {
		own = append(own, f.Num)
	}
	return own
}

func onLevel(l []api.Held, level int) []api.Held {
	var own []api.Held
	for _, f := range l {
		if f.Level == level {
			own = append(own, f)
		}
	}
	return own
}

// texts answers keys that lie close to each other: an empty one, and some that are
// another one's beginning.
func texts() []string {
	return []string{"", "\x00", "a", "a\x00", "aa", "b", "\xff", "\xff\x00"}
}

// sizes answers Lens at all bounds.
func sizes() []int {
	return []int{0, 0, 1, 1, 2, 60, 100, 199, 200, 201, 900, 1999, 2000, 2001, -1, -100, -2000, 1 << 62, math.MaxInt, math.MinInt}
}

// anyHeld answers a file that r picks: its Num and its keys are often those of
// another one.
func anyHeld(r *rand.Rand) api.Held {
	pick := func(l []string) string { return l[r.IntN(len(l))] }
	f := held(r.IntN(12), r.IntN(4), pick(texts()), pick(texts()), sizes()[r.IntN(14)])
	if r.IntN(3) > 0 && bytes.Compare(f.First, f.Last) > 0 {
		f.First, f.Last = f.Last, f.First
	}
	return f
}

// anyOdd answers one that most often may not be.
func anyOdd(r *rand.Rand) api.Held {
	f := anyHeld(r)
	switch r.IntN(4) {
	case 0:
		f.Num = []int{math.MinInt, -1, 1<<30 + 1, math.MaxInt}[r.IntN(4)]
	case 1:
		f.Level = []int{math.MinInt, -1, 4, math.MaxInt}[r.IntN(4)]
	case 2:
		f.Len = sizes()[r.IntN(len(sizes()))]
	}
	return f
}

func anyList(r *rand.Rand, n int, pick func(*rand.Rand) api.Held) []api.Held {
	l := make([]api.Held, n)
	for i := range l {
		l[i] = pick(r)
	}
	return l
}

func same(a, b api.Held) bool {
	return a.Num == b.Num && a.Level == b.Level && bytes.Equal(a.First, b.First) && bytes.Equal(a.Last, b.Last) && a.Len == b.Len
}

func sameList(a, b []api.Held) bool { return slices.EqualFunc(a, b, same) }

// clone answers f with keys of its own, behind which there is room.
func clone(f api.Held) api.Held {
	f.First = append(append([]byte{}, f.First...), "room"...)[:len(f.First)]
	f.Last = append(append([]byte{}, f.Last...), "more room"...)[:len(f.Last)]
	return f
}

func cloneList(l []api.Held) []api.Held {
	own := make([]api.Held, len(l), len(l)+3)
	for i, f := range l {
		own[i] = clone(f)
	}
	return own
}

// whole answers f with its keys' spare room.
func whole(f api.Held) api.Held {
	f.First, f.Last = f.First[:cap(f.First)], f.Last[:cap(f.Last)]
	return f
}

// lent answers l with room behind it and behind its keys, and a look at whether any
// of that was changed.
func lent(l []api.Held) (own []api.Held, unchanged func() bool) {
	all := append(cloneList(l), held(3, 0, "x", "y", 9), api.Held{}, held(4, 1, "", "z", 300))
	var was []api.Held
	for _, f := range all {
		was = append(was, clone(whole(f)))
	}
	return all[:len(l)], func() bool {
		return slices.EqualFunc(all, was, func(a, b api.Held) bool { return same(whole(a), b) })
	}
}

func lentNums(l []int) (own []int, unchanged func() bool) {
	all := append(slices.Clone(l), 1, 2, 3, -4)
	was := slices.Clone(all)
	return all[:len(l)], func() bool { return slices.Equal(all, was) }
}

// spoil changes all of l, its spare room and that of its keys too.
func spoil(l []api.Held) {
	for i, f := range l[:cap(l)] {
		for _, key := range [][]byte{f.First, f.Last} {
			for j := range key[:cap(key)] {
				key[:cap(key)][j] ^= 0x55
			}
		}
		l[:cap(l)][i] = held(-7, 2, "spoiled", "spoiled", 5000)
	}
}

func spoilNums(l []int) {
	for i := range l[:cap(l)] {
		l[:cap(l)][i] = -9
	}
}

// apart fails where two keys of l share memory.
func apart(t *testing.T, l []api.Held) {
	t.Helper()
	var keys [][]byte
	for _, f := range l {
		f = whole(f)
		keys = append(keys, f.First, f.Last)
	}
	for i, key := range keys {
		for j := range key {
			key[j] = byte(i)
		}
	}
	for i, key := range keys {
		if !bytes.Equal(key, bytes.Repeat([]byte{byte(i)}, len(key))) {
			t.Fatalf("two keys of an answer share memory")
		}
	}
}

// touches asks both ways round, which must not matter.
func touches(t *testing.T, a, b api.Held) bool {
	t.Helper()
	in, unchanged := lent(list(a, b))
	got := Touch(in[0], in[1])
	if Touch(in[1], in[0]) != got {
		t.Fatalf("Touch of %v and %v is not the same turned round", a, b)
	}
	if !unchanged() {
		t.Fatalf("Touch changes %v or %v", a, b)
	}
	return got
}

// overs asks Over and Done, spoils what the first told, and fails where they don't
// fit each other, or where what was handed in was changed, kept or lent.
func overs(t *testing.T, files []api.Held) []int {
	t.Helper()
	in, unchanged := lent(files)
	got := Over(in)
	told := slices.Clone(got)
	spoilNums(got)
	again, done := Over(in), Done(in)
	if !unchanged() {
		t.Fatalf("Over or Done changes %.300v", files)
	}
	spoil(in)
	if !slices.Equal(again, told) {
		t.Fatalf("Over of %.300v is %v, then %v", files, told, again)
	}
	if done != (len(told) == 0) {
		t.Fatalf("Over of %.300v is %v, and Done is %v", files, told, done)
	}
	return told
}

// picked asks Pick, likewise.
func picked(t *testing.T, files []api.Held) (in []int, to int, ok bool) {
	t.Helper()
	own, unchanged := lent(files)
	got, to, ok := Pick(own)
	told := slices.Clone(got)
	spoilNums(got)
	again, toAgain, okAgain := Pick(own)
	done := Done(own)
	if !unchanged() {
		t.Fatalf("Pick changes %.300v", files)
	}
	spoil(own)
	if !slices.Equal(again, told) || toAgain != to || okAgain != ok {
		t.Fatalf("Pick of %.300v is %v, %d, %v, then %v, %d, %v", files, told, to, ok, again, toAgain, okAgain)
	}
	if ok == done {
		t.Fatalf("Pick of %.300v is %v, and Done is %v", files, ok, done)
	}
	if !ok && (len(told) != 0 || to != 0) {
		t.Fatalf("Pick of %.300v is %v, %d beside false", files, told, to)
	}
	return told, to, ok
}

// after asks After, likewise, and fails where the answer's keys share memory.
func after(t *testing.T, files []api.Held, in []int, to int, made []api.Held) []api.Held {
	t.Helper()
	ownFiles, sameFiles := lent(files)
	ownIn, sameIn := lentNums(in)
	ownMade, sameMade := lent(made)
	got := After(ownFiles, ownIn, to, ownMade)
	told := cloneList(got)
	spoil(got)
	again := After(ownFiles, ownIn, to, ownMade)
	if !sameFiles() || !sameIn() || !sameMade() {
		t.Fatalf("After of %.300v, %v, %d and %.300v changes or lends one of them", files, in, to, made)
	}
	spoil(ownFiles)
	spoilNums(ownIn)
	spoil(ownMade)
	if !sameList(again, told) {
		t.Fatalf("After of %.300v, %v, %d and %.300v is %.300v, then %.300v", files, in, to, made, told, again)
	}
	apart(t, again)
	return told
}

func wantOver(t *testing.T, why string, files []api.Held, want ...int) {
	t.Helper()
	if got := overs(t, files); !slices.Equal(got, want) {
		t.Errorf("%s: %v are over, not %v", why, got, want)
	}
}

func wantPick(t *testing.T, why string, files []api.Held, to int, want ...int) {
	t.Helper()
	if in, toLevel, ok := picked(t, files); !slices.Equal(in, want) || toLevel != to || !ok {
		t.Errorf("%s: Pick is %v, %d, %v, not %v, %d", why, in, toLevel, ok, want, to)
	}
}

func wantNone(t *testing.T, why string, files []api.Held) {
	t.Helper()
	if in, to, ok := picked(t, files); ok {
		t.Errorf("%s: Pick is %v, %d, %v", why, in, to, ok)
	}
}

func wantAfter(t *testing.T, why string, got []api.Held, want ...api.Held) {
	t.Helper()
	if !sameList(got, want) {
		t.Errorf("%s: %v, not %v", why, got, want)
	}
}
