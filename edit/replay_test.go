package edit

import (
	"bytes"
	"testing"

	"clepsydra/api"
)

// story answers Edits each of which may be Applied behind those ahead of it, and
// the Views that they make.
func story() ([]api.Edit, []api.View) {
	edits := []api.Edit{
		{Log: 1, Lease: 100},
		{Add: row(file(0, 2), file(0, 3))},
		{Drop: []int{2, 3}, Add: row(file(1, 4)), Log: 5, Floor: 300},
		{Cert: topVersion, At: 7},
		{Add: row(file(0, 2), file(3, topNum)), Lease: 200},
		{},
		{Drop: []int{4}, Add: row(file(2, 4)), Floor: 1},
	}
	views := []api.View{
		{Log: 1, Lease: 100},
		{Log: 1, Files: row(file(0, 2), file(0, 3)), Lease: 100},
		{Log: 5, Files: row(file(1, 4)), Floor: 300, Lease: 100},
		{Log: 5, Files: row(file(1, 4)), Floor: 300, Cert: topVersion, At: 7, Lease: 100},
		{Log: 5, Files: row(file(1, 4), file(0, 2), file(3, topNum)), Floor: 300, Cert: topVersion, At: 7, Lease: 200},
		{Log: 5, Files: row(file(1, 4), file(0, 2), file(3, topNum)), Floor: 300, Cert: topVersion, At: 7, Lease: 200},
		{Log: 5, Files: row(file(0, 2), file(3, topNum), file(2, 4)), Floor: 1, Cert: topVersion, At: 7, Lease: 200},
	}
	return edits, views
}

// 15.2, 15.3: Replay

func TestReplayOfNothing(t *testing.T) {
	corrupt(t, "nil", nil)
	corrupt(t, "none", []byte{})
	corrupt(t, "none, with room", written(api.Edit{Log: 1})[:0])
}

func TestReplayTellsTheViewOfAllEdits(t *testing.T) {
	edits, views := story()
	var b []byte
	v := api.View{}
	for i, e := range edits {
		var ok bool
		if v, ok = applied(t, v, e); !sameView(v, views[i]) || !ok {
			t.Fatalf("behind %d Edits there is %v, %v", i+1, v, ok)
		}
		var err api.Errno
		if b, err = put(t, b, e); err != api.OK {
			t.Fatalf("Put of %v is %v", e, err)
		}
		replays(t, "all so far", b, views[i], len(b))
	}
}

func TestReplayOfVeryMany(t *testing.T) {
	edits := []api.Edit{{Log: 1, Add: files(20)}}
	for i := range 3000 {
		edits = append(edits, api.Edit{Drop: []int{1 + i}, Add: row(file(i%4, 21+i)), At: uint64(i + 1)})
	}
	b := written(edits...)
	want := api.View{Log: 1, At: 3000}
	for i := range 20 {
		want.Files = append(want.Files, file((2980+i)%4, 3001+i))
	}
	replays(t, "3,001 Edits", b, want, len(b))
	corrupt(t, "and one that may not be Applied", join(b, written(api.Edit{Drop: []int{3000}})))
}

// W2: of a log that was cut there is some beginning of the Edits, each whole.
func TestReplayOfALogThatWasCut(t *testing.T) {
	edits, views := story()
	b := written(edits...)
	for n := range len(b) + 1 {
		whole := 0
		for whole < len(edits) && len(written(edits[:whole+1]...)) <= n {
			whole++
		}
		if whole == 0 {
			corrupt(t, "cut within the first", b[:n])
			continue
		}
		replays(t, "cut", b[:n], views[whole-1], len(written(edits[:whole]...)))
	}
}

// tails answers bytes that are the beginning of a frame, as far as Take can see,
// and others of which it sees that they are none.
func tails() (torn, junk [][]byte) {
	for n := 1; n < 8; n++ {
		torn = append(torn, text(n), make([]byte, n), bytes.Repeat([]byte{0xff}, n))
	}
	torn = append(torn,
		head(6, 0), head(1, 0), head(100, 0), head(6, 60000), join(head(6, 60000), text(60003)),
		join(head(6, 7), make([]byte, 7), []byte{1, 2, 3}),
		written(widest())[:8], written(widest())[:9], framed(5, coded(api.Edit{}))[:12],
	)
	for _, n := range []int{8, 9, 12, 20, 300, 70000} {
		junk = append(junk, text(n), make([]byte, n), bytes.Repeat([]byte{0xff}, n))
	}
	junk = append(junk,
		head(0, 0), head(101, 0), head(255, 0), head(6, 60001), head(6, 1<<24-1),
		framed(0, coded(api.Edit{})), framed(101, coded(api.Edit{})), framed(6, text(60001)),
		join(head(6, 7), make([]byte, 7), []byte{1, 2, 3, 4}),
		join([]byte{0}, written(api.Edit{Log: 2})), written(api.Edit{Log: 2})[1:],
		[]byte("12345678"),
	)
	return torn, junk
}

func TestReplayOfBytesThatAreNoFrame(t *testing.T) {
	torn, junk := tails()
	edits, views := story()
	for n := range len(edits) + 1 {
		ahead := written(edits[:n]...)
		for _, tail := range torn {
			if n == 0 {
				corrupt(t, "torn, and no Edit", tail)
				continue
			}
			replays(t, "torn", join(ahead, tail), views[n-1], len(ahead))
		}
		for _, tail := range junk {
			corrupt(t, "junk", join(ahead, tail))
			corrupt(t, "junk, and an Edit", join(ahead, tail, written(api.Edit{Log: 2})))
		}
	}
}

// others answers whole frames that are no Edit's.
func others() [][]byte {
	var l [][]byte
	for kind := 1; kind <= 100; kind++ {
		if kind != 6 {
			l = append(l, framed(kind, coded(api.Edit{})), framed(kind, coded(api.Edit{Log: 2})))
		}
	}
	body := coded(Whole(view()))
	for _, body := range [][]byte{
		nil, {0}, {9}, make([]byte, 6), make([]byte, 8), {0x80, 0, 0, 0, 0, 0, 0, 0}, {0, 0, 0x81, 0, 0, 0, 0, 0},
		body[:len(body)-1], body[1:], append(bytes.Clone(body), 0), text(40), text(60000), make([]byte, 60000),
	} {
		l = append(l, framed(6, body))
	}
	for _, e := range bad() {
		// Files and Nums that no Edit could have are coded as it would be.
		if body := coded(e); len(body) <= 60000 {
			l = append(l, framed(6, body))
		}
	}
	return l
}

func TestReplayOfAFrameThatIsNoEdits(t *testing.T) {
	edits, views := story()
	all, first := written(edits...), written(edits[0])
	for _, frame := range others() {
		corrupt(t, "it alone", frame)
		corrupt(t, "ahead", join(frame, all))
		corrupt(t, "between", join(first, frame, written(edits[1:]...)))
		corrupt(t, "behind", join(all, frame))
		corrupt(t, "ahead of a torn one", join(all, frame, first[:9]))
		corrupt(t, "and a byte", join(first, frame, []byte{1}))
		replays(t, "itself cut", join(all, frame[:len(frame)-1]), views[len(views)-1], len(all))
	}
}

func TestReplayOfEditsThatMayNotBeApplied(t *testing.T) {
	for _, e := range []api.Edit{
		{}, {Floor: 1}, {Cert: 1}, {At: 1}, {Lease: 1}, {Add: files(1)}, {Drop: []int{2}}, {Log: 1, Drop: []int{2}},
		{Log: 1, Add: row(file(0, 2), file(1, 2))}, {Log: 1, Add: row(file(0, 2)), Drop: []int{2}},
	} {
		corrupt(t, "the first", written(e))
		corrupt(t, "ahead of another", written(e, api.Edit{Log: 1, Add: files(3)}))
	}
	one, two := api.Edit{Log: 1, Add: row(file(0, 2))}, api.Edit{Drop: []int{2}}
	corrupt(t, "the other way round", written(two, one))
	corrupt(t, "dropped again", written(one, two, two))
	corrupt(t, "added again", written(one, one))
	corrupt(t, "and mended", written(one, one, two))
	replays(t, "dropped and added again", written(one, two, one), api.View{Log: 1, Files: row(file(0, 2))}, 21+20+21)
	corrupt(t, "too many", written(api.Edit{Log: 1, Add: files(40)}, api.Edit{Add: row(file(0, 41))}))
	corrupt(t, "too many, then fewer", written(api.Edit{Log: 1, Add: files(40)}, api.Edit{Add: row(file(0, 41))}, api.Edit{Drop: []int{1}}))
	edits, _ := story()
	for n := 1; n <= len(edits); n++ {
		for _, e := range []api.Edit{{Drop: []int{99}}, {Add: row(file(0, 77), file(1, 77))}, {Drop: []int{topNum, topNum}}} {
			corrupt(t, "in the row", join(written(edits[:n]...), written(e), written(edits[n:]...)))
			corrupt(t, "ahead of a torn one", join(written(edits[:n]...), written(e), []byte{1}))
		}
	}
}

func TestReplayOfTurnedBits(t *testing.T) {
	edits, views := story()
	b := written(edits...)
	for bit := range 8 * len(b) {
		c := bytes.Clone(b)
		turn(c, bit)
		corrupt(t, "turned", c)
		// Cut within it a frame is told as torn: nobody can see yet what it was.
		whole := 0
		for len(written(edits[:whole+1]...)) <= bit/8 {
			whole++
		}
		ahead, cut := len(written(edits[:whole]...)), len(written(edits[:whole+1]...))-1
		if bit/8-ahead < 8 {
			cut = ahead + 7
		}
		if whole == 0 {
			corrupt(t, "turned and cut within the first", c[:cut])
			continue
		}
		replays(t, "turned and cut", c[:cut], views[whole-1], ahead)
	}
}
