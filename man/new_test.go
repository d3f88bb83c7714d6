package man

import (
	"encoding/hex"
	"strconv"
	"testing"

	"clepsydra/api"
	"clepsydra/disk"
	"clepsydra/edit"
)

// 16.2: New

// callsOfNew is how many calls of the disk New takes where nothing is there: the
// last one is the SyncDir behind the Rename.
const callsOfNew = 9

func TestNew(t *testing.T) {
	for _, v := range views() {
		d := disk.New(100000)
		m, e := made(t, d, v)
		expect(t, "New", e, api.OK)
		tells(t, "New", m, 1, 1, v)
		holds(t, "New", d, "current", currentOf(1), "man.1", written(edit.Whole(v)))
		if d.Calls() != callsOfNew {
			t.Errorf("New takes %d calls", d.Calls())
		}
		reopens(t, "New", d, 1, 1, v)
	}
}

// The bytes were worked out by another program.
func TestBytes(t *testing.T) {
	unhex := func(s string) []byte {
		b, _ := hex.DecodeString(s)
		return b
	}
	whole := unhex("0600000e92e65a200003030400ac020102090b0c0d0e55c47f8a")
	d := disk.New(1000)
	m, e := made(t, d, view())
	done(t, e)
	holds(t, "New", d, "current", unhex("0800000122ab484c0152d016a0"), "man.1", whole)
	done(t, saved(t, m, api.Edit{Drop: []int{300}, Add: row(file(2, 5)), Cert: topVersion}))
	holds(t, "Save", d, "current", unhex("0800000122ab484c0152d016a0"), "man.1", append(whole, unhex("06000011d91d176e01ac0201020500008080808080804000009505f5d9")...))
	done(t, m.Rewrite())
	whole = unhex("060000132e6d2c8f0003030401020205090b808080808080400d0ea3b23c11")
	holds(t, "Rewrite", d, "current", unhex("0800000122ab484c02a62346b3"), "man.2", whole)
	done(t, d.Create("man.299"), m.Rewrite())
	holds(t, "Rewrite", d, "current", unhex("08000002d658185fac02babc8c47"), "man.300", whole)
	done(t, d.Create("man.1073741823"), m.Rewrite())
	holds(t, "Rewrite", d, "current", unhex("080000053d3cd28b8080808004f3700ece"), "man.1073741824", whole)
	reopens(t, "the greatest", d, topNum, 1, m.View())
}

func newRefused(t *testing.T, why string, d *disk.Disk, v api.View, want api.Errno) {
	t.Helper()
	if _, e := made(t, d, v); e != want {
		t.Errorf("%s: New of %.200v is %v, not %v", why, v, e, want)
	}
}

func TestNewRefuses(t *testing.T) {
	for _, v := range append(views(), wrongViews()...) {
		newRefused(t, "no disk", nil, v, api.ErrArg)
	}
	d := diskOf(t, "man.1", text(9), "current", text(3))
	same := untouched(d)
	for _, v := range wrongViews() {
		newRefused(t, "not Ok", d, v, api.ErrArg)
	}
	if !same() {
		t.Error("a New that is refused calls the disk")
	}
	d.Stop(0)
	newRefused(t, "dead, not Ok", d, api.View{}, api.ErrArg)
	newRefused(t, "dead", d, view(), api.ErrDead)
}

// What stands on the disk already: other files are left, the elder files of man go,
// but man.1, which is another's, is not touched.
func TestNewBesideOtherFiles(t *testing.T) {
	v := view()
	others := []any{"log.1", text(5), "tab.2", text(6), "man", text(2), "man.", text(3), "man.01", text(4), "man.0", text(2), "man.1x", text(1), "man.1073741825", text(2), "currents", text(3), "current.tm", text(4)}
	want := append([]any{"current", currentOf(1), "man.1", written(edit.Whole(v))}, others...)
	for _, elder := range [][]any{
		nil, {"current", text(7)}, {"current.tmp", text(8)}, {"man.2", text(9)}, {"man.1073741824", text(9), "man.300", text(3), "man.10", text(0)},
		{"current", currentOf(5), "current.tmp", currentOf(6), "man.5", written(edit.Whole(api.View{Log: 1})), "man.6", text(1)},
	} {
		d := diskOf(t, append(elder, others...)...)
		m, e := made(t, d, v)
		expect(t, "New", e, api.OK)
		tells(t, "New", m, 1, 1, v)
		holds(t, "New", d, want...)
		done(t, saved(t, m, api.Edit{Floor: 99}))
		w := v
		w.Floor = 99
		tells(t, "and Save", m, 1, 2, w)
		opens(t, "and Save", d, 1, 2, w)
		// That others are gone need not last.
		d.Crash(losses()[1])
		opens(t, "and Save, crashed", d, 1, 2, w)
	}
	for _, b := range [][]byte{nil, text(5), written(edit.Whole(v))} {
		d := diskOf(t, "man.1", b, "current.tmp", text(3))
		newRefused(t, "man.1 is there", d, v, api.ErrExists)
		holds(t, "man.1 is there", d, "man.1", b, "current.tmp", text(3))
	}
}

// afterNew answers what stands on the disk where so many calls of New were done.
func afterNew(n int, v api.View) []any {
	var l []any
	if n >= 2 {
		l = append(l, "man.1", written(edit.Whole(v)))
	} else if n >= 1 {
		l = append(l, "man.1", []byte(nil))
	}
	if n >= 8 {
		l = append(l, "current", currentOf(1))
	} else if n >= 5 {
		l = append(l, "current.tmp", currentOf(1))
	} else if n >= 4 {
		l = append(l, "current.tmp", []byte(nil))
	}
	return l
}

func TestNewThatFailsAtEachCall(t *testing.T) {
	v := view()
	for k := 1; k <= callsOfNew; k++ {
		d := disk.New(100000)
		d.Fail(k)
		newRefused(t, "fails", d, v, api.ErrFull)
		holds(t, "fails at "+strconv.Itoa(k), d, afterNew(k-1, v)...)
		if d.Calls() != k {
			t.Errorf("behind its error at %d New goes on to %d", k, d.Calls())
		}

		d = disk.New(100000)
		d.Stop(k - 1)
		newRefused(t, "dies", d, v, api.ErrDead)
		if d.Calls() != k {
			t.Errorf("behind its death at %d New goes on to %d", k, d.Calls())
		}
		d.Crash(nil)
		holds(t, "dies at "+strconv.Itoa(k), d, afterNew(k-1, v)...)
	}
	// With a current.tmp there is one call more, its Remove, ahead of the fifth.
	for k := 1; k <= callsOfNew+1; k++ {
		d := diskOf(t, "current.tmp", text(3))
		d.Fail(k)
		newRefused(t, "fails", d, v, api.ErrFull)
		want := afterNew(k-2, v)
		if k <= 4 {
			want = append(afterNew(k-1, v), "current.tmp", text(3))
		}
		holds(t, "fails at "+strconv.Itoa(k), d, want...)
	}
}

func TestNewOfASmallDisk(t *testing.T) {
	v := view()
	need := len(written(edit.Whole(v))) + len(currentOf(1))
	for quota := range need {
		newRefused(t, "too small", disk.New(quota), v, api.ErrFull)
	}
	d := disk.New(need)
	m, e := made(t, d, v)
	expect(t, "just great enough", e, api.OK)
	expect(t, "Save", saved(t, m, api.Edit{Floor: 1}), api.ErrFull)
	tells(t, "full", m, 1, 1, v)
	expect(t, "Rewrite", m.Rewrite(), api.ErrFull)
	tells(t, "full", m, 1, 1, v)
	reopens(t, "full", d, 1, 1, v)
}

func TestNewAmongManyNames(t *testing.T) {
	for free, want := range []api.Errno{api.ErrMany, api.ErrMany, api.OK} {
		d := disk.New(100000)
		for i := range 64 - free {
			done(t, d.Create("x."+strconv.Itoa(i)))
		}
		newRefused(t, "many names", d, view(), want)
	}
}

func TestNewTwice(t *testing.T) {
	d := disk.New(100000)
	m, e := made(t, d, view())
	done(t, e)
	newRefused(t, "man.1 counts", d, api.View{Log: 1}, api.ErrExists)
	reopens(t, "refused", d, 1, 1, view())
	done(t, m.Rewrite())
	n, e := made(t, d, api.View{Log: 7})
	done(t, e)
	tells(t, "anew", n, 1, 1, api.View{Log: 7})
	holds(t, "anew", d, "current", currentOf(1), "man.1", written(api.Edit{Log: 7}))
}

// Each Manifest has a Disk of its own.
func TestManifestsBesideEachOther(t *testing.T) {
	d, f := disk.New(1000), disk.New(1000)
	m, e := made(t, d, view())
	n, g := made(t, f, api.View{Log: 3})
	done(t, e, g, saved(t, n, api.Edit{Floor: 8}), n.Rewrite(), saved(t, n, api.Edit{At: 2}))
	tells(t, "the first", m, 1, 1, view())
	tells(t, "the second", n, 2, 2, api.View{Log: 3, Floor: 8, At: 2})
	f.Fail(2)
	expect(t, "Sync", saved(t, n, api.Edit{At: 3}), api.ErrFull)
	broken(t, "the second", n, f, 2, 3, api.View{Log: 3, Floor: 8, At: 3})
	done(t, saved(t, m, api.Edit{Log: 10}))
	if m.Broken() || m.Count() != 2 {
		t.Error("the first is broken with the second")
	}
}
