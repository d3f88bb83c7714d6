package frame

import (
	"bytes"
	"encoding/binary"
	"hash/crc32"
	"math"
	"math/rand/v2"
	"slices"
	"testing"

	"clepsydra/api"
)

// seal answers b with its sum behind it, by another hand than package sum's.
func seal(b []byte) []byte {
	s := crc32.Checksum(b, crc32.MakeTable(crc32.Castagnoli))
	return binary.LittleEndian.AppendUint32(bytes.Clone(b), s)
}

// head answers a sealed head, also one that may not be.
func head(kind, n int) []byte {
	return seal(append([]byte{byte(kind)}, binary.BigEndian.AppendUint32(nil, uint32(n))[1:]...))
}

// want answers the frame that 3.1 asks for.
func want(kind int, body []byte) []byte {
	return append(head(kind, len(body)), seal(body)...)
}

// text answers n bytes, the same at each run.
func text(n int) []byte {
	r := rand.New(rand.NewPCG(uint64(n), 3))
	b := make([]byte, n)
	for i := range b {
		b[i] = byte(r.Uint32())
	}
	return b
}

// spare answers b with room behind it, and a look at whether that room or b
// was changed.
func spare(b []byte) (own []byte, same func() bool) {
	all := append(bytes.Clone(b), "behind it, where a frame may fit"...)
	was := bytes.Clone(all)
	return all[:len(b)], func() bool { return bytes.Equal(all, was) }
}

func turn(b []byte, bit int) {
	b[bit/8] ^= 1 << (bit % 8)
}

func join(parts ...[]byte) []byte {
	return bytes.Join(parts, nil)
}

func sizes() []int {
	return []int{0, 1, 2, 255, 256, 257, 4092, 59999, 60000}
}

// take asks Take, and fails where it changes b, or tells more than an error.
func take(t *testing.T, b []byte, at int) (int, []byte, int, api.Errno) {
	t.Helper()
	in, same := spare(b)
	kind, body, next, e := Take(in, at)
	if !same() {
		t.Fatal("Take changed what it was given")
	}
	if e != api.OK && (kind != 0 || body != nil || next != 0) {
		t.Fatalf("beside error %d: %d, %x, %d", e, kind, body, next)
	}
	return kind, body, next, e
}

func refused(t *testing.T, what string, b []byte, at int, want api.Errno) {
	t.Helper()
	if _, _, _, e := take(t, b, at); e != want {
		t.Errorf("%s: error %d, want %d", what, e, want)
	}
}

func TestPutLaysHeadAndBody(t *testing.T) {
	for _, kind := range []int{1, 2, 50, 99, 100} {
		for _, n := range sizes() {
			for _, ahead := range [][]byte{nil, {}, []byte("ahead"), want(9, []byte("one"))} {
				in, inSame := spare(ahead)
				body, bodySame := spare(text(n))
				got, e := Put(in, kind, body)
				if e != api.OK || !bytes.Equal(got, join(ahead, want(kind, text(n)))) {
					t.Fatalf("kind %d, %d bytes: %d bytes, error %d", kind, n, len(got), e)
				}
				clear(got[:cap(got)])
				if !inSame() || !bodySame() {
					t.Fatal("Put changed or lent what it was given")
				}
			}
		}
	}
	if got, e := Put(nil, 1, nil); e != api.OK || len(got) != 12 {
		t.Error("a frame of nothing has 12 bytes", got, e)
	}
	if got, _ := Put(nil, 7, []byte("hello")); !bytes.Equal(got[:4], []byte{7, 0, 0, 5}) || string(got[8:13]) != "hello" {
		t.Errorf("%x", got)
	}
}

func TestPutRefuses(t *testing.T) {
	for _, c := range []struct {
		kind, n int
		want    api.Errno
	}{
		{0, 0, api.ErrArg},
		{101, 0, api.ErrArg},
		{-1, 5, api.ErrArg},
		{255, 5, api.ErrArg},
		{256 + 1, 5, api.ErrArg},
		{1<<32 + 1, 5, api.ErrArg},
		{math.MaxInt, 5, api.ErrArg},
		{math.MinInt, 5, api.ErrArg},
		{math.MinInt + 1, 5, api.ErrArg},
		{1, 60001, api.ErrLong},
		{100, 60001, api.ErrLong},
		{1, 1 << 16, api.ErrLong},
		{1, 1 << 24, api.ErrLong},
		{1, 1<<24 + 5, api.ErrLong},
		{0, 60001, api.ErrArg},
		{101, 60001, api.ErrArg},
	} {
		in, same := spare([]byte("ahead"))
		if got, e := Put(in, c.kind, make([]byte, c.n)); got != nil || e != c.want || !same() {
			t.Errorf("kind %d, %d bytes: %d bytes, error %d, want %d", c.kind, c.n, len(got), e, c.want)
		}
	}
}

func TestWhatIsPutIsTaken(t *testing.T) {
	for kind := 1; kind <= 100; kind++ {
		for _, n := range []int{0, 1, 300} {
			putAndTake(t, kind, text(n))
		}
	}
	for _, n := range sizes() {
		putAndTake(t, 1, text(n))
		putAndTake(t, 100, make([]byte, n))
	}
}

func putAndTake(t *testing.T, kind int, body []byte) {
	t.Helper()
	for _, ahead := range []string{"", "x", "some bytes ahead"} {
		b, e := Put([]byte(ahead), kind, body)
		if e != api.OK {
			t.Fatal(kind, len(body), e)
		}
		for _, behind := range []string{"", "y", "some bytes behind"} {
			gotKind, got, next, e := take(t, append(bytes.Clone(b), behind...), len(ahead))
			if gotKind != kind || !bytes.Equal(got, body) || next != len(b) || e != api.OK {
				t.Fatalf("kind %d, %d bytes: %d, %d bytes, %d, error %d", kind, len(body), gotKind, len(got), next, e)
			}
		}
	}
}

func TestTakeAtEachPlace(t *testing.T) {
	b := join(want(7, []byte("hello")), want(3, nil))
	for _, at := range []int{-1, math.MinInt, len(b) + 1, len(b) + 8, math.MaxInt, math.MaxInt - 7} {
		refused(t, "outside", b, at, api.ErrArg)
	}
	refused(t, "ahead of nothing", nil, -1, api.ErrArg)
	refused(t, "behind nothing", nil, 1, api.ErrArg)
	refused(t, "nothing", nil, 0, api.ErrTorn)
	for at := range len(b) + 1 {
		switch {
		case at == 0 || at == 17:
			if _, _, _, e := take(t, b, at); e != api.OK {
				t.Error(at, e)
			}
		case len(b)-at < 8:
			refused(t, "fewer than eight bytes left", b, at, api.ErrTorn)
		default:
			refused(t, "within a frame", b, at, api.ErrSum)
		}
	}
}

func TestTakeRefusesHeads(t *testing.T) {
	behind := make([]byte, 99)
	for _, kind := range []int{0, 101, 102, 128, 255} {
		frame := append(head(kind, 5), seal([]byte("hello"))...)
		refused(t, "a kind under a right sum", frame, 0, api.ErrForm)
		refused(t, "a kind and no body", head(kind, 5), 0, api.ErrForm)
		refused(t, "a kind and a length", join(head(kind, 60001), behind), 0, api.ErrForm)
		refused(t, "a kind and a wrong body", join(head(kind, 5), behind), 0, api.ErrForm)
	}
	for _, n := range []int{60001, 60002, 1 << 16, 1 << 23, 1<<24 - 1} {
		refused(t, "a length under a right sum", join(head(1, n), behind), 0, api.ErrForm)
		refused(t, "a length and nothing", head(100, n), 0, api.ErrForm)
	}
	refused(t, "a length and the whole body", join(head(1, 60001), seal(text(60001))), 0, api.ErrForm)
	refused(t, "the longest, cut", join(head(1, 60000), behind), 0, api.ErrTorn)
	refused(t, "a wrong sum ahead of a wrong kind", join([]byte{0, 0, 0, 0, 1, 2, 3, 4}, behind), 0, api.ErrSum)
	refused(t, "no sum at all", make([]byte, 100), 0, api.ErrSum)
	for bit := range 64 {
		for _, b := range [][]byte{want(7, []byte("hello")), want(1, nil), want(100, text(300))} {
			turn(b, bit)
			refused(t, "a head that was turned", b, 0, api.ErrSum)
			refused(t, "a head that was turned, and no body", b[:8], 0, api.ErrSum)
			refused(t, "a head that was turned and cut", b[:7], 0, api.ErrTorn)
		}
	}
}

func TestTakeRefusesBodies(t *testing.T) {
	refused(t, "the body's sum of zeros", join(head(1, 5), []byte("hello"), make([]byte, 4)), 0, api.ErrSum)
	refused(t, "another body", join(head(1, 5), []byte("hellO"), seal([]byte("hello"))[5:]), 0, api.ErrSum)
	refused(t, "a length that is too small", join(head(1, 4), seal([]byte("hello"))), 0, api.ErrSum)
	refused(t, "a length that is too great", join(head(1, 6), seal([]byte("hello")), []byte("x")), 0, api.ErrSum)
	refused(t, "a wrong body that was cut", join(head(1, 5), []byte("hellO"), []byte{1, 2, 3}), 0, api.ErrTorn)
	for _, n := range []int{0, 1, 300} {
		b := want(1, text(n))
		for bit := 64; bit < 8*len(b); bit++ {
			turned := bytes.Clone(b)
			turn(turned, bit)
			refused(t, "a body that was turned", turned, 0, api.ErrSum)
		}
	}
}

func TestACutFrameIsTorn(t *testing.T) {
	for _, n := range []int{0, 1, 5, 300} {
		b := want(7, text(n))
		for end := range b {
			refused(t, "cut", b[:end], 0, api.ErrTorn)
			refused(t, "cut behind others", join([]byte("ab"), b[:end]), 2, api.ErrTorn)
		}
	}
	b := want(100, text(60000))
	for end := range b {
		if _, _, _, e := Take(b[:end], 0); e != api.ErrTorn {
			t.Fatal("the longest, cut at", end, e)
		}
	}
}

func TestATurnedFrameIsNotOK(t *testing.T) {
	frame := want(7, []byte("ab"))
	size := 8 * len(frame)
	for i := range size {
		for j := range i + 1 {
			for k := range j + 1 {
				b := bytes.Clone(frame)
				turn(b, i)
				if j < i {
					turn(b, j)
				}
				if k < j {
					turn(b, k)
				}
				if _, _, _, e := Take(b, 0); e != api.ErrSum {
					t.Fatal(i, j, k, e)
				}
			}
		}
	}
	r := rand.New(rand.NewPCG(3, 1))
	for _, n := range []int{100, 4092} {
		frame := want(100, text(n))
		for range 1000 {
			b := bytes.Clone(frame)
			for _, bit := range r.Perm(8 * len(b))[:1+r.IntN(3)] {
				turn(b, bit)
			}
			if _, _, _, e := take(t, b, 0); e != api.ErrSum {
				t.Fatal(n, e)
			}
		}
	}
}

// split asks Split, and fails where it changes b.
func split(t *testing.T, b []byte) ([]int, [][]byte, int, api.Errno) {
	t.Helper()
	in, same := spare(b)
	kinds, bodies, end, e := Split(in)
	if !same() {
		t.Fatal("Split changed what it was given")
	}
	return kinds, bodies, end, e
}

func equalBodies(a, b [][]byte) bool {
	return slices.EqualFunc(a, b, bytes.Equal)
}

func TestSplitTellsAll(t *testing.T) {
	var b []byte
	var kinds []int
	var bodies [][]byte
	for i, n := range []int{0, 5, 0, 60000, 1, 300, 4092} {
		gotKinds, gotBodies, end, e := split(t, b)
		if !slices.Equal(gotKinds, kinds) || !equalBodies(gotBodies, bodies) || end != len(b) || e != api.OK {
			t.Fatal(i, gotKinds, len(gotBodies), end, e)
		}
		kinds = append(kinds, 100-i)
		bodies = append(bodies, text(n))
		b, _ = Put(b, 100-i, text(n))
	}
	gotKinds, gotBodies, end, e := split(t, b)
	if !slices.Equal(gotKinds, kinds) || !equalBodies(gotBodies, bodies) || end != len(b) || e != api.OK {
		t.Error(gotKinds, len(gotBodies), end, e)
	}
}

func TestSplitEndsAtTheFirstRefused(t *testing.T) {
	turned := want(5, []byte("was turned"))
	turned[10] ^= 4
	bad := []struct {
		b    []byte
		want api.Errno
	}{
		{[]byte("x"), api.ErrTorn},
		{want(5, []byte("was cut"))[:7], api.ErrTorn},
		{want(5, []byte("was cut"))[:18], api.ErrTorn},
		{[]byte("12345678"), api.ErrSum},
		{turned, api.ErrSum},
		{append(head(0, 0), seal(nil)...), api.ErrForm},
		{append(head(101, 0), seal(nil)...), api.ErrForm},
		{head(1, 60001), api.ErrForm},
		{head(1, 60000), api.ErrTorn},
	}
	whole := [][]byte{[]byte("one"), nil, text(300)}
	for n := range len(whole) + 1 {
		var ahead []byte
		for i, body := range whole[:n] {
			ahead = append(ahead, want(i+1, body)...)
		}
		for i, c := range bad {
			kinds, bodies, end, e := split(t, join(ahead, c.b))
			if !slices.Equal(kinds, []int{1, 2, 3}[:n]) || !equalBodies(bodies, whole[:n]) || end != len(ahead) || e != c.want {
				t.Errorf("%d whole ones, then %d: %v, %d bodies, %d, error %d", n, i, kinds, len(bodies), end, e)
			}
			if c.want == api.ErrTorn {
				continue
			}
			if kinds, _, end, e := split(t, join(ahead, c.b, want(9, nil))); len(kinds) != n || end != len(ahead) || e != c.want {
				t.Errorf("%d whole ones, then %d, then one: %v, %d, error %d", n, i, kinds, end, e)
			}
		}
	}
}

func TestSplitOfRowsThatWereCut(t *testing.T) {
	b := join(want(1, []byte("one")), want(2, nil), want(3, text(50)))
	ends := []int{0, 15, 27, len(b)}
	for n := range len(b) + 1 {
		whole := 0
		for whole < 3 && ends[whole+1] <= n {
			whole++
		}
		e := api.ErrTorn
		if n == ends[whole] {
			e = api.OK
		}
		kinds, bodies, end, got := split(t, b[:n])
		if len(kinds) != whole || len(bodies) != whole || end != ends[whole] || got != e {
			t.Error(n, kinds, end, got)
		}
	}
}

func TestAnswersAreNewMemory(t *testing.T) {
	b := join(want(1, []byte("one")), want(2, []byte("two")), want(3, nil))
	in, same := spare(b)
	_, body, _, _ := Take(in, 0)
	clear(body[:cap(body)])
	kinds, bodies, _, _ := Split(in)
	again, more, _, _ := Split(in)
	clear(bodies[0][:cap(bodies[0])])
	if string(bodies[1]) != "two" || string(more[0]) != "one" {
		t.Error("two bodies share memory")
	}
	for _, body := range bodies {
		clear(body[:cap(body)])
	}
	clear(bodies[:cap(bodies)])
	clear(kinds[:cap(kinds)])
	if !same() || !slices.Equal(again, []int{1, 2, 3}) || string(more[1]) != "two" {
		t.Error("lent", again, more)
	}
}

func FuzzNoCallPanics(f *testing.F) {
	f.Add([]byte(nil), 0, 1)
	f.Add(want(7, []byte("hello")), 0, 7)
	f.Add(join(want(7, nil), want(1, []byte("x"))), 12, 100)
	f.Add(head(0, 0), 0, 101)
	f.Add(head(1, 1<<24-1), -1, math.MinInt)
	f.Add(join(want(7, nil), head(1, 60000)), math.MaxInt, math.MaxInt)
	f.Fuzz(func(t *testing.T, b []byte, at, kind int) {
		next, e := 0, api.OK
		n := 0
		kinds, bodies, end, why := split(t, b)
		for next < len(b) && e == api.OK {
			var gotKind, behind int
			var body []byte
			gotKind, body, behind, e = take(t, b, next)
			if e != api.OK {
				break
			}
			if n == len(kinds) || kinds[n] != gotKind || !bytes.Equal(bodies[n], body) || !bytes.Equal(want(gotKind, body), b[next:behind]) {
				t.Fatal("Take and Split tell otherwise at", next)
			}
			next = behind
			n++
		}
		if n != len(kinds) || n != len(bodies) || end != next || why != e {
			t.Fatal(n, len(kinds), end, next, why, e)
		}
		if _, _, _, e := take(t, b, at); (at < 0 || at > len(b)) != (e == api.ErrArg) {
			t.Fatal(at, e)
		}
		long, e := Put(b, kind, b)
		if (e == api.OK) != (kind >= 1 && kind <= 100 && len(b) <= 60000) || e != api.OK && long != nil {
			t.Fatal(kind, len(b), e)
		}
		if e == api.OK {
			putAndTake(t, kind, b)
		}
	})
}
