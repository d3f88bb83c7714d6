package edit

import (
	"math"
	"math/rand/v2"
	"testing"

	"clepsydra/api"
)

// anyNum answers a number, most often a small one, at times one at a bound or
// beyond it.
func anyNum(r *rand.Rand) int {
	if r.IntN(15) > 0 {
		return 1 + r.IntN(8)
	}
	return []int{0, -1, 41, topNum, topNum + 1, math.MinInt, math.MaxInt}[r.IntN(7)]
}

func anyLevel(r *rand.Rand) int {
	if r.IntN(25) > 0 {
		return r.IntN(4)
	}
	return []int{-1, 4, math.MinInt, math.MaxInt}[r.IntN(4)]
}

func anyVersion(r *rand.Rand) uint64 {
	switch r.IntN(12) {
	case 0:
		return []uint64{topVersion, topVersion + 1, math.MaxUint64, 1 << 63, topVersion - 1}[r.IntN(5)]
	case 1, 2, 3:
		return r.Uint64N(1000)
	}
	return 0
}

func anyFiles(r *rand.Rand, most int) []api.File {
	var l []api.File
	for range r.IntN(most + 1) {
		l = append(l, file(anyLevel(r), anyNum(r)))
	}
	return l
}

func anyView(r *rand.Rand) api.View {
	v := api.View{Log: anyNum(r), Files: anyFiles(r, 4), Floor: anyVersion(r), Cert: anyVersion(r), At: anyVersion(r), Lease: anyVersion(r)}
	if r.IntN(20) == 0 {
		v.Files = files(37 + r.IntN(6))
	}
	return v
}

func anyEdit(r *rand.Rand) api.Edit {
	e := api.Edit{Add: anyFiles(r, 3), Floor: anyVersion(r), Cert: anyVersion(r), At: anyVersion(r), Lease: anyVersion(r)}
	for range r.IntN(3) {
		e.Drop = append(e.Drop, anyNum(r))
	}
	if r.IntN(3) == 0 {
		e.Log = anyNum(r)
	}
	if r.IntN(20) == 0 {
		e.Drop = nums(37 + r.IntN(6))
	}
	if r.IntN(20) == 0 {
		e.Add = files(37 + r.IntN(6))
	}
	return e
}

// viewsAs fails where what is told of v, and of e on it, is not what the second
// hand tells.
func viewsAs(t *testing.T, v api.View, e api.Edit) {
	t.Helper()
	ok(t, "as the second hand", v, fine(v))
	want, can := plainApply(v, e)
	if can {
		makes(t, "as the second hand", v, e, want)
		ok(t, "what comes out", want, true)
	} else {
		refused(t, "as the second hand", v, e)
	}
	if fine(v) {
		makes(t, "Whole", api.View{}, wholed(t, v), v)
	} else {
		refused(t, "Whole", api.View{}, wholed(t, v))
	}
	if !sames(t, v, v) || sames(t, v, want) != sameView(v, want) {
		t.Fatalf("Same of %v and %v", v, want)
	}
}

// putsAs fails where Put, or Read of what it wrote, is not as the second hand.
func putsAs(t *testing.T, ahead []byte, e api.Edit) {
	t.Helper()
	b, err := put(t, ahead, e)
	if !putOk(e) {
		if err != api.ErrArg {
			t.Fatalf("Put of %v is %x, %v", e, b, err)
		}
		noEdit(t, "refused by Put", coded(e))
		return
	}
	if string(b) != string(join(ahead, written(e))) || err != api.OK {
		t.Fatalf("Put of %v is %x, %v", e, b, err)
	}
	reads(t, coded(e), e)
}

// readsAs fails where Read or Replay does not tell what the second hand does, or
// where Put of what is read is other than b.
func readsAs(t *testing.T, b []byte) {
	t.Helper()
	e, err := read(t, b)
	want, ok := decoded(b)
	if !sameEdit(e, want) || ok != (err == api.OK) || !ok && err != api.ErrForm {
		t.Fatalf("Read of %x is %v, %v, not %v, %v", b, e, err, want, ok)
	}
	if ok {
		again, err := put(t, nil, e)
		if string(again) != string(framed(6, b)) || err != api.OK {
			t.Fatalf("Put of what is read of %x is %x, %v", b, again, err)
		}
	}
	v, end, err := replayed(t, b)
	wantV, wantEnd, wantE := plainReplay(b)
	if !sameView(v, wantV) || end != wantEnd || err != wantE {
		t.Fatalf("Replay of %x is %v, %d, %v, not %v, %d, %v", b, v, end, err, wantV, wantEnd, wantE)
	}
}

// anyBytes answers frames, most of them Edits that may be Applied, some of them
// spoiled.
func anyBytes(r *rand.Rand) []byte {
	v := api.View{}
	var b []byte
	for range r.IntN(7) {
		e := anyEdit(r)
		w, ok := plainApply(v, e)
		for n := 0; !ok && n < 300; n++ {
			e = anyEdit(r)
			w, ok = plainApply(v, e)
		}
		v = w
		body := coded(e)
		switch r.IntN(20) {
		case 0:
			turn(body, r.IntN(8*len(body)))
			b = append(b, framed(6, body)...)
		case 1:
			b = append(b, framed(6, text(r.IntN(12)))...)
		case 2:
			b = append(b, framed(r.IntN(102), body)...)
		case 3:
			b = append(b, written(anyEdit(r))...)
		default:
			b = append(b, framed(6, body)...)
		}
	}
	switch r.IntN(8) {
	case 0:
		b = append(b, text(r.IntN(8))...)
	case 1:
		b = append(b, head(r.IntN(102), r.IntN(60010))...)
	case 2:
		b = b[:r.IntN(len(b)+1)]
	case 3:
		if len(b) > 0 {
			turn(b, r.IntN(8*len(b)))
		}
	}
	return b
}

// 15.1 to 15.3

func TestViewsAgainstTheSecondHand(t *testing.T) {
	for seed := range uint64(20000) {
		r := rand.New(rand.NewPCG(151, seed))
		v, e := anyView(r), anyEdit(r)
		viewsAs(t, v, e)
		putsAs(t, text(r.IntN(9)), e)
	}
}

func TestBytesAgainstTheSecondHand(t *testing.T) {
	whole := 0
	for seed := range uint64(20000) {
		b := anyBytes(rand.New(rand.NewPCG(152, seed)))
		readsAs(t, b)
		if _, _, e := plainReplay(b); e == api.OK {
			whole++
		}
	}
	if whole < 5000 {
		t.Errorf("only %d of the logs are none that is refused", whole)
	}
}

// All bodies of two bytes behind and ahead of others, and those of some Edits
// with each byte changed to each other one.
func TestShortBodies(t *testing.T) {
	for n := range 1 << 16 {
		two := []byte{byte(n), byte(n >> 8)}
		readsAs(t, two)
		readsAs(t, join(two, make([]byte, 5)))
		readsAs(t, join(two, make([]byte, 6)))
		readsAs(t, join([]byte{0, 1}, two, make([]byte, 5)))
		readsAs(t, join(make([]byte, 2), two, make([]byte, 4)))
	}
	for _, e := range []api.Edit{Whole(view()), {Drop: []int{300, 4}, Add: row(file(3, 128)), Log: topNum, Floor: topVersion, Lease: 300}} {
		body := coded(e)
		for at := range body {
			for c := range 256 {
				other := join(body)
				other[at] = byte(c)
				readsAs(t, other)
				readsAs(t, join(written(Whole(view())), framed(6, other), written(api.Edit{At: 3})))
			}
		}
	}
}

// 15.3: a View is what its Edits made of nothing: Whole of it, and of each View
// on the way, with the Edits behind, makes the same.
func TestAViewIsWhatItsEditsMade(t *testing.T) {
	edits, views := story()
	for from := range edits {
		b := written(wholed(t, views[from]))
		for to := from; to < len(edits); to++ {
			if to > from {
				b = append(b, written(edits[to])...)
			}
			replays(t, "from Whole on", b, views[to], len(b))
		}
	}
}

// 15.4

func FuzzNoCallPanics(f *testing.F) {
	f.Add([]byte(nil), 0, 0, 0, 0, uint64(0), uint64(0))
	f.Add(written(api.Edit{Log: 1}), 1, 1, 2, 3, uint64(5), uint64(topVersion))
	f.Add(coded(widest()), topNum, topNum+1, -1, 4, uint64(math.MaxUint64), uint64(topVersion+1))
	f.Add(coded(Whole(view())), math.MinInt, math.MaxInt, 41, 40, uint64(1), uint64(2))
	for seed := range uint64(50) {
		r := rand.New(rand.NewPCG(154, seed))
		f.Add(anyBytes(r), anyNum(r), anyNum(r), anyLevel(r), r.IntN(60), anyVersion(r), anyVersion(r))
	}
	f.Fuzz(func(t *testing.T, b []byte, log, num, level, many int, x, y uint64) {
		readsAs(t, b)
		readsAs(t, framed(6, b[:min(len(b), 60000)]))
		readsAs(t, join(written(api.Edit{Log: 1, Add: files(3)}), framed(6, b[:min(len(b), 60000)])))
		many = max(0, min(many, 100))
		v := api.View{Log: log, Files: append(files(many), file(level, num)), Floor: x, Cert: y, At: x / 2, Lease: y / 2}
		for _, e := range []api.Edit{
			{}, {Drop: []int{num}}, {Drop: nums(many), Log: num}, {Add: row(file(level, log)), Floor: y, Cert: x},
			{Drop: []int{num}, Add: row(file(level, num)), At: y, Lease: x}, {Drop: []int{log, num}, Add: files(many)}, Whole(v),
		} {
			viewsAs(t, v, e)
			putsAs(t, b, e)
		}
	})
}
