package man

import (
	"bytes"
	"math"
	"slices"
	"strconv"
	"testing"

	"clepsydra/api"
	"clepsydra/disk"
	"clepsydra/edit"
	"clepsydra/num"
)

// 16.3

func openRefused(t *testing.T, why string, d *disk.Disk, want api.Errno) {
	t.Helper()
	same := untouched(d)
	if _, e := opened(t, d); e != want || !same() {
		t.Errorf("%s: Open of %.200q is %v, not %v", why, kept(d), e, want)
	}
}

// fileOf answers the bytes of a man file of the story, and its View.
func fileOf(t *testing.T, n int) ([]byte, api.View) {
	t.Helper()
	edits, views := story()
	return append(written(edit.Whole(views[0])), written(edits[:n]...)...), views[n]
}

func TestOpenGoesOn(t *testing.T) {
	edits, views := story()
	for _, number := range []int{1, 2, 300, topNum} {
		for n := range len(edits) + 1 {
			b, v := fileOf(t, n)
			name := "man." + strconv.Itoa(number)
			d := diskOf(t, "current", currentOf(uint64(number)), name, b)
			same := untouched(d)
			m := opens(t, "as it stands", d, number, n+1, v)
			if !same() {
				t.Fatal("Open of a whole file calls the disk")
			}
			for i, e := range edits[n:] {
				done(t, saved(t, m, e))
				tells(t, "goes on", m, number, n+i+2, views[n+i+1])
				reopens(t, "goes on", d, number, n+i+2, views[n+i+1])
			}
			all, _ := fileOf(t, len(edits))
			holds(t, "goes on", d, "current", currentOf(uint64(number)), name, all)
		}
	}
}

func TestOpenRefuses(t *testing.T) {
	if m, e := Open(nil); m != nil || e != api.ErrArg {
		t.Error("no disk", m, e)
	}
	openRefused(t, "an empty disk", disk.New(1000), api.ErrNone)
	b, v := fileOf(t, 2)
	d := diskOf(t, "man.1", b, "current.tmp", currentOf(1))
	openRefused(t, "no current", d, api.ErrNone)
	d.Stop(0)
	openRefused(t, "dead, and no current", d, api.ErrDead)
	d = diskOf(t, "man.1", b, "current", currentOf(1))
	d.Stop(0)
	openRefused(t, "dead", d, api.ErrDead)
	d.Crash(nil)
	opens(t, "behind it", d, 1, 3, v)
}

// badCurrents answers bytes that are no frame of current's, though the number that
// they are about is 3.
func badCurrents() [][]byte {
	good := currentOf(3)
	l := [][]byte{nil, append(slices.Clone(good), 0), append(slices.Clone(good), good...), append([]byte{0}, good...), append(slices.Clone(good), framed(8, nil)...), []byte("3"), []byte("man.3"), text(13), make([]byte, 13), make([]byte, 60000), text(100000)}
	for n := range good {
		l = append(l, good[:n])
	}
	for bit := range 8 * len(good) {
		b := slices.Clone(good)
		turn(b, bit)
		l = append(l, b)
	}
	for kind := 1; kind <= 100; kind++ {
		if kind != 8 {
			l = append(l, framed(kind, []byte{3}))
		}
	}
	for _, body := range [][]byte{
		nil, {0x83}, {0x83, 0}, {0x83, 0x80, 0}, {3, 0}, {3, 3}, {3, 0x80}, {0x80}, {0x80, 0}, []byte("3"), num.Eight(nil, 3),
		bytes.Repeat([]byte{0x80}, 20), bytes.Repeat([]byte{0xff}, 10), append([]byte{0x83}, append(bytes.Repeat([]byte{0x80}, 8), 2)...), text(60000),
	} {
		l = append(l, framed(8, body))
	}
	return l
}

func TestOpenOfAnotherCurrent(t *testing.T) {
	b, v := fileOf(t, 2)
	d := diskOf(t, "man.3", b, "current", currentOf(3))
	opens(t, "as it was", d, 3, 3, v)
	for _, c := range badCurrents() {
		put(t, d, "current", c)
		openRefused(t, "another current", d, api.ErrCorrupt)
	}
	put(t, d, "current", currentOf(3))
	opens(t, "as it was", d, 3, 3, v)
}

func TestOpenOfNumbersThatNoFileHas(t *testing.T) {
	b, _ := fileOf(t, 2)
	d := diskOf(t, "man.1", b, "man.0", b, "man.1073741825", b, "man.4294967297", b, "man.00", b, "log.2", b, "tab.2", b)
	for _, n := range []uint64{0, 2, 4, 10, 11, 256 + 1, topNum - 1, topNum, topNum + 1, 1<<31 + 1, 1<<32 + 1, 1 << 62, 1<<63 - 1, 1 << 63, 1<<63 + 1, math.MaxUint64 - 1, math.MaxUint64} {
		put(t, d, "current", currentOf(n))
		openRefused(t, "number "+strconv.FormatUint(n, 10), d, api.ErrCorrupt)
	}
}

// badLogs answers bytes that edit.Replay refuses.
func badLogs(t *testing.T) [][]byte {
	t.Helper()
	b, _ := fileOf(t, 3)
	first := written(edit.Whole(api.View{Log: 1, Files: files(3)}))
	l := [][]byte{
		nil, text(7), text(8), text(100), make([]byte, 30), append(slices.Clone(b), "12345678"...), append([]byte{0}, b...), b[1:], currentOf(3),
		framed(5, nil), framed(6, nil), framed(6, text(9)), append(slices.Clone(b), framed(7, nil)...), append(slices.Clone(b), framed(6, []byte{0})...),
		written(api.Edit{}), written(api.Edit{Floor: 3}), written(api.Edit{Drop: []int{1}, Log: 1}),
	}
	for n := range first {
		l = append(l, first[:n])
	}
	for bit := range 8 * len(b) {
		c := slices.Clone(b)
		turn(c, bit)
		l = append(l, c)
	}
	for _, e := range refusedByApply(2, 3) {
		l = append(l, append(slices.Clone(first), written(e)...))
	}
	return l
}

func TestOpenOfAnotherManFile(t *testing.T) {
	b, v := fileOf(t, 2)
	d := diskOf(t, "man.3", b, "man.2", b, "current", currentOf(3), "current.tmp", currentOf(2))
	opens(t, "as it was", d, 3, 3, v)
	for _, c := range badLogs(t) {
		put(t, d, "man.3", c)
		openRefused(t, "another man file", d, api.ErrCorrupt)
	}
	done(t, d.Remove("man.3"))
	openRefused(t, "no man file", d, api.ErrCorrupt)
	done(t, d.Rename("man.2", "man.3"))
	opens(t, "as it was", d, 3, 3, v)
}

// W2: a file that was cut within an Edit has those ahead of it; it is laid anew, as
// man.N, and the other files of man go.
func TestOpenOfATornFile(t *testing.T) {
	edits, views := story()
	all, _ := fileOf(t, len(edits))
	first, _ := fileOf(t, 0)
	for n := len(first); n < len(all); n++ {
		whole := 0
		for b, _ := fileOf(t, whole+1); len(b) <= n; b, _ = fileOf(t, whole+1) {
			whole++
		}
		v := views[whole]
		d := diskOf(t, "current", currentOf(4), "man.4", all[:n], "man.2", text(3), "log.9", text(5))
		if b, _ := fileOf(t, whole); len(b) == n {
			opens(t, "cut between two", d, 4, whole+1, v)
			continue
		}
		m := opens(t, "cut within one", d, 5, 1, v)
		holds(t, "cut within one", d, "current", currentOf(5), "man.5", written(edit.Whole(v)), "log.9", text(5))
		reopens(t, "laid anew", d, 5, 1, v)
		done(t, saved(t, m, api.Edit{Lease: 1000}))
		v.Lease = 1000
		reopens(t, "laid anew, and goes on", d, 5, 2, v)
	}
}

func TestOpenOfOtherTails(t *testing.T) {
	b, v := fileOf(t, 3)
	for _, tail := range [][]byte{{0}, {6}, make([]byte, 7), text(7), framed(6, nil)[:11], framed(7, text(60000))[:8], framed(1, text(60000))[:60011], written(edit.Whole(view()))[:8]} {
		d := diskOf(t, "current", currentOf(1), "man.1", append(slices.Clone(b), tail...))
		opens(t, "torn", d, 2, 1, v)
		holds(t, "torn", d, "current", currentOf(2), "man.2", written(edit.Whole(v)))
	}
}

func TestOpenOfManyEdits(t *testing.T) {
	for _, n := range []int{1, 2, 29, 30, 31, 32, 100, 3000} {
		v := api.View{Log: 1, Files: files(3)}
		d := disk.New(1 << 20)
		m, e := made(t, d, v)
		done(t, e)
		for i := 1; i < n; i++ {
			done(t, saved(t, m, api.Edit{Floor: uint64(i)}))
			v.Floor = uint64(i)
		}
		// However many there are, a Manifest goes on with its file.
		tells(t, "as it was saved", m, 1, n, v)
		was := kept(d)
		if n <= 30 {
			reopens(t, "few Edits", d, 1, n, v)
			opens(t, "few Edits", d, 1, n, v)
			holds(t, "few Edits", d, "current", currentOf(1), "man.1", []byte(was["man.1"]))
			continue
		}
		reopens(t, "many Edits", d, 2, 1, v)
		o := opens(t, "many Edits", d, 2, 1, v)
		holds(t, "many Edits", d, "current", currentOf(2), "man.2", written(edit.Whole(v)))
		done(t, saved(t, o, api.Edit{At: 5}))
		v.At = 5
		reopens(t, "many Edits, and goes on", d, 2, 2, v)
	}
}

// A torn file counts for its whole Edits: it is laid anew for its piece of one.
func TestOpenOfThirtyAndAPiece(t *testing.T) {
	for _, n := range []int{29, 30, 31} {
		b := written(slices.Repeat([]api.Edit{{Log: 1}}, n)...)
		v := api.View{Log: 1}
		d := diskOf(t, "current", currentOf(1), "man.1", append(b, 1))
		opens(t, "and a piece", d, 2, 1, v)
		holds(t, "and a piece", d, "current", currentOf(2), "man.2", written(edit.Whole(v)))
	}
}

// The number of the new file is above that of each man file there is, also of
// those that never counted.
func TestOpenMakesTheNextFile(t *testing.T) {
	b, v := fileOf(t, 2)
	for _, other := range []int{1, 2, 4, 8, 10, 99, topNum - 1} {
		d := diskOf(t, "current", currentOf(3), "man.3", append(slices.Clone(b), 6), "man."+strconv.Itoa(other), text(4), "man.1073741825", text(2), "log.1000", text(2), "tab.2000", text(2), "current.tmp", text(9))
		n := max(3, other) + 1
		opens(t, "next", d, n, 1, v)
		holds(t, "next", d, "current", currentOf(uint64(n)), "man."+strconv.Itoa(n), written(edit.Whole(v)), "man.1073741825", text(2), "log.1000", text(2), "tab.2000", text(2))
	}
	d := diskOf(t, "current", currentOf(3), "man.3", append(slices.Clone(b), 6), "man.1073741824", text(4))
	openRefused(t, "no number is left", d, api.ErrName)
	d = diskOf(t, "current", currentOf(3), "man.3", b, "man.1073741824", text(4))
	opens(t, "and none is needed", d, 3, 3, v)
}

// The error of the steps of Rewrite is told, at each of the calls; the elder file
// counts till the Rename was done.
func TestOpenWhoseRewriteFails(t *testing.T) {
	b, v := fileOf(t, 2)
	torn := append(slices.Clone(b), 6)
	for _, files := range [][]any{
		{"current", currentOf(1), "man.1", torn},
		{"current", currentOf(1), "man.1", torn, "current.tmp", text(4)},
	} {
		calls := callsOfNew + len(files)/2 - 2
		for k := 1; k <= calls; k++ {
			d := diskOf(t, files...)
			was := d.Calls()
			d.Fail(k)
			_, e := opened(t, d)
			expect(t, "fails at "+strconv.Itoa(k), e, api.ErrFull)
			if d.Calls() != was+k {
				t.Errorf("behind its error at %d Open goes on", k)
			}
			number := 1
			if k == calls {
				number = 2
			}
			if got := kept(d)["current"]; got != string(currentOf(uint64(number))) {
				t.Errorf("behind an error at %d current is %x", k, got)
			}
			c := diskOf(t, files...)
			c.Stop(k - 1)
			_, e = opened(t, c)
			expect(t, "dies at "+strconv.Itoa(k), e, api.ErrDead)
			c.Crash(nil)
			for _, x := range []*disk.Disk{d, c} {
				if m, e := opened(t, x); e != api.OK || m.Count() != 1 || m.Broken() || !edit.Same(viewed(t, m), v) {
					t.Errorf("behind an error at %d Open is %v, %v", k, m, e)
				}
			}
		}
		d := diskOf(t, files...)
		d.Fail(calls + 1)
		opens(t, "only a Remove fails", d, 2, 1, v)
		holds(t, "only a Remove fails", d, "current", currentOf(2), "man.1", torn, "man.2", written(edit.Whole(v)))
	}
}
