package log

import (
	"bytes"
	"encoding/hex"
	"slices"
	"testing"

	"clepsydra/api"
	"clepsydra/frame"
)

// 14.1: Batch

func TestBatchLaysItsItemsInAFrame(t *testing.T) {
	for _, l := range append(three(), edges(), row(1), row(2), row(127), row(128), row(1000), row(1001), row(1999), row(2000),
		list(sample(3, 7, 5, 1), sample(3, 7, 5, 1)), list(sample(3, 7, 4, 1), tomb(3, 5)), list(sample(9, 9, 9, 9), sample(1, 1, 1, 1))) {
		if b, e := batched(t, l); !bytes.Equal(b, batch(l...)) || e != api.OK {
			t.Errorf("Batch of %d, %.3v, is %.60x, %v", len(l), l, b, e)
		}
	}
	for _, x := range edges() {
		if b, e := batched(t, list(x)); !bytes.Equal(b, batch(x)) || e != api.OK {
			t.Errorf("Batch of %v is %x, %v", x, b, e)
		}
	}
}

// The bytes were worked out by another program.
func TestBytesOfABatch(t *testing.T) {
	for want, l := range map[string][]api.Item{
		"01000006970683b30103023c040da8b58589":           list(sample(3, 60, 4, -7)),
		"01000006970683b301030100050074f44470":           list(tomb(3, 5)),
		"0100000b444aab0c02030100050003023c040dff488ad1": list(tomb(3, 5), sample(3, 60, 4, -7)),
		"010000333a5b91b603ff0280808080802080808080808040ffffffffffffffffff0100020001feffffffffffffffff01ff01008080808080804000b52a4cb1": list(sample(255, 1<<40, 1<<48, -1<<63), sample(0, 0, 1, 1<<63-1), tomb(255, 1<<48)),
	} {
		b, e := batched(t, l)
		if got := hex.EncodeToString(b); got != want || e != api.OK {
			t.Errorf("Batch of %v is %s, %v", l, got, e)
		}
		replays(t, "these bytes", b, [][]api.Item{l}, len(want)/2)
	}
}

func TestBatchRefuses(t *testing.T) {
	refuses := func(why string, l []api.Item, want api.Errno) {
		t.Helper()
		if _, e := batched(t, l); e != want {
			t.Errorf("%s: Batch of %d is %v, not %v", why, len(l), e, want)
		}
	}
	refuses("nil", nil, api.ErrArg)
	refuses("no item", list(), api.ErrArg)
	refuses("no item, with room", row(5)[:0], api.ErrArg)
	for _, x := range bad() {
		refuses("it alone", list(x), api.ErrArg)
		for _, at := range []int{0, 1, 999, 1999} {
			l := row(2000)
			l[at] = x
			refuses("one among many", l, api.ErrArg)
			refuses("one among too many", append(l, tomb(3, 5)), api.ErrLong)
		}
		refuses("behind too many", append(row(2000), x), api.ErrLong)
		refuses("too many that may not be", slices.Repeat(list(x), 2001), api.ErrLong)
	}
	refuses("one too many", row(2001), api.ErrLong)
	refuses("far too many", row(30000), api.ErrLong)
}

// Items of 60,000 bytes would be more than item.Bytes takes: of 25 bytes each
// there are at most 2,000. So no list tells whether 60,000 is the bound; it is
// frame.Put's, by the error that 14.1 asks for.
func TestTheLongestBatch(t *testing.T) {
	if n := len(coded(widest(2000)...)); n != 50002 {
		t.Fatalf("the widest batch has %d bytes", n)
	}
	for _, n := range []int{1999, 2000} {
		b, e := batched(t, widest(n))
		if !bytes.Equal(b, batch(widest(n)...)) || e != api.OK {
			t.Errorf("Batch of the %d widest is %d bytes, %v", n, len(b), e)
		}
		replays(t, "the widest", join(b, b), [][]api.Item{widest(n), widest(n)}, 2*len(b))
	}
	if b, e := batched(t, widest(2001)); b != nil || e != api.ErrLong {
		t.Errorf("one item more is %d bytes, %v", len(b), e)
	}
	for n, want := range map[int]api.Errno{59999: api.OK, 60000: api.OK, 60001: api.ErrLong} {
		if _, e := frame.Put(nil, batchKind, make([]byte, n)); e != want {
			t.Errorf("%d bytes are %v", n, e)
		}
	}
}

// 14.1: Replay

func TestReplayOfNoBytes(t *testing.T) {
	replays(t, "nil", nil, nil, 0)
	replays(t, "none", []byte{}, nil, 0)
	replays(t, "none, with room", batch(row(5)...)[:0], nil, 0)
}

func TestReplayTellsAllBatches(t *testing.T) {
	var all [][]api.Item
	var b []byte
	for _, l := range append(three(), row(1), row(2000), row(1), row(1000), row(1), edges(), row(1001)) {
		replays(t, "it alone", batch(l...), [][]api.Item{l}, len(batch(l...)))
		all, b = append(all, l), append(b, batch(l...)...)
		replays(t, "all so far", b, all, len(b))
	}
}

func TestReplayOfALogThatWasCut(t *testing.T) {
	all := three()
	b := written(all...)
	for n := range len(b) + 1 {
		whole := 0
		for whole < len(all) && len(written(all[:whole+1]...)) <= n {
			whole++
		}
		replays(t, "cut", b[:n], all[:whole], len(written(all[:whole]...)))
	}
}

// tails answers bytes behind the batches that are the beginning of a frame, as
// far as Take can see, and others of which it sees that they are none.
func tails() (torn, junk [][]byte) {
	for n := 1; n < 8; n++ {
		torn = append(torn, text(n), make([]byte, n), bytes.Repeat([]byte{0xff}, n))
	}
	torn = append(torn,
		head(1, 0), head(100, 0), head(1, 60000), join(head(1, 60000), text(60003)),
		join(head(1, 5), []byte("hello"), []byte{1, 2, 3}),
		batch(row(3)...)[:8], batch(row(3)...)[:9],
		framed(2, coded(tomb(1, 1)))[:12],
	)
	for _, n := range []int{8, 9, 12, 20, 300, 70000} {
		junk = append(junk, text(n), make([]byte, n), bytes.Repeat([]byte{0xff}, n))
	}
	junk = append(junk,
		head(0, 0), head(101, 0), head(255, 0), head(1, 60001), head(1, 1<<24-1),
		framed(0, coded(tomb(1, 1))), framed(101, coded(tomb(1, 1))), framed(1, text(60001)),
		join(head(1, 5), []byte("hello"), []byte{1, 2, 3, 4}),
		join([]byte{0}, batch(tomb(1, 1))),
		batch(tomb(1, 1))[1:],
	)
	return torn, junk
}

func TestReplayOfBytesThatAreNoFrame(t *testing.T) {
	torn, junk := tails()
	all := three()
	for n := range len(all) + 1 {
		ahead := written(all[:n]...)
		for _, tail := range torn {
			replays(t, "torn", join(ahead, tail), all[:n], len(ahead))
		}
		for _, tail := range junk {
			corrupt(t, "junk", join(ahead, tail))
			corrupt(t, "junk, and a batch", join(ahead, tail, batch(tomb(1, 1))))
		}
	}
}

// others answers whole frames that no Batch wrote.
func others() [][]byte {
	body := coded(tomb(2, 9), sample(1, 1, 1, 1))
	var l [][]byte
	for kind := 2; kind <= 100; kind++ {
		l = append(l, framed(kind, body))
	}
	for _, body := range [][]byte{
		nil, {0}, {0, 0}, {1}, {1, 2}, {0x80}, {0x80, 0}, {0x81, 0, 1, 1, 0, 5, 0},
		body[:len(body)-1], append(slices.Clone(body), 0), body[1:], text(40), text(60000),
		make([]byte, 59999), make([]byte, 60000), bytes.Repeat([]byte{1}, 60000),
		coded(row(2001)...), coded(row(5000)...),
		{1, 1, 1, 0x80, 0, 5, 0}, {1, 1, 1, 0, 0x85, 0, 0}, {1, 1, 1, 0, 5, 0x80, 0},
		join([]byte{0x81, 0}, body[1:]),
	} {
		l = append(l, framed(1, body))
	}
	for _, x := range bad() {
		if x.Series == int(byte(x.Series)) && x.Kind == int(byte(x.Kind)) {
			l = append(l, batch(x), batch(tomb(1, 1), x, tomb(2, 2)))
		}
	}
	return l
}

func TestReplayOfAFrameThatNoBatchWrote(t *testing.T) {
	good, all := batch(tomb(1, 1)), three()
	for _, frame := range others() {
		corrupt(t, "it alone", frame)
		corrupt(t, "ahead", join(frame, good))
		corrupt(t, "behind", join(good, frame))
		corrupt(t, "between", join(written(all...), frame, written(all...)))
		corrupt(t, "ahead of a torn one", join(frame, good[:9]))
		corrupt(t, "and a byte", join(good, frame, []byte{1}))
		replays(t, "itself cut", join(good, frame[:len(frame)-1]), [][]api.Item{list(tomb(1, 1))}, len(good))
	}
}

func TestReplayOfTurnedBits(t *testing.T) {
	all := three()
	b := written(all...)
	for bit := range 8 * len(b) {
		c := bytes.Clone(b)
		turn(c, bit)
		corrupt(t, "turned", c)
		corrupt(t, "turned, behind another", join(batch(row(2)...), c))
		// Cut within it a batch is told as torn: nobody can see yet what it was.
		whole := 0
		for whole < len(all)-1 && len(written(all[:whole+1]...)) <= bit/8 {
			whole++
		}
		ahead, end := len(written(all[:whole]...)), len(written(all[:whole+1]...))
		cut := end - 1
		if bit/8-ahead < 8 {
			cut = ahead + 7
		}
		replays(t, "turned and cut", c[:cut], all[:whole], ahead)
	}
}

func TestTheLongestBatchTurned(t *testing.T) {
	b := written(widest(2000), row(1))
	for bit := 0; bit < 8*len(b); bit += 997 {
		turn(b, bit)
		if l, end, e := Replay(b); l != nil || end != 0 || e != api.ErrCorrupt {
			t.Fatalf("turned at %d: %d batches, %d, %v", bit, len(l), end, e)
		}
		turn(b, bit)
	}
	replays(t, "turned back", b, [][]api.Item{widest(2000), row(1)}, len(b))
}
