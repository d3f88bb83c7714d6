package man

import (
	"testing"

	"clepsydra/api"
	"clepsydra/edit"
)

// 16.2: View, Save, Count

func TestSave(t *testing.T) {
	edits, views := story()
	m, d := started(t, 100000)
	for i, e := range edits {
		calls := d.Calls()
		done(t, saved(t, m, e))
		if d.Calls() != calls+2 {
			t.Errorf("Save takes %d calls", d.Calls()-calls)
		}
		tells(t, "saved", m, 1, i+2, views[i+1])
		b, _ := fileOf(t, i+1)
		holds(t, "saved", d, "current", currentOf(1), "man.1", b)
		reopens(t, "saved", d, 1, i+2, views[i+1])
	}
}

func TestSaveOfTheGreatestEdits(t *testing.T) {
	v := api.View{Log: topNum, Floor: topVersion, Cert: topVersion, At: topVersion, Lease: topVersion}
	m, d := started(t, 100000)
	done(t, saved(t, m, api.Edit{Drop: []int{2}, Add: files(40), Log: v.Log, Floor: v.Floor, Cert: v.Cert, At: v.At, Lease: v.Lease}))
	v.Files = files(40)
	reopens(t, "forty Files", d, 1, 2, v)
	var other []api.File
	for i := range 40 {
		other = append(other, file(3, topNum-i))
	}
	done(t, saved(t, m, api.Edit{Drop: nums(40), Add: other}))
	v.Files = other
	reopens(t, "forty others", d, 1, 3, v)
	done(t, m.Rewrite())
	reopens(t, "laid anew", d, 2, 1, v)
}

func TestSaveOfWhatIsRefused(t *testing.T) {
	_, views := story()
	m, d := started(t, 100000)
	done(t, saved(t, m, api.Edit{Add: row(file(1, 5))}))
	v := views[0]
	v.Files = row(file(0, 2), file(1, 5))
	same := untouched(d)
	for _, e := range append(refusedByPut(), refusedByApply(2, 5)...) {
		expect(t, "refused", saved(t, m, e), api.ErrArg)
		tells(t, "refused", m, 1, 2, v)
	}
	expect(t, "41 Files", saved(t, m, api.Edit{Add: files(43)[3:]}), api.ErrArg)
	if !same() {
		t.Error("a Save that is refused calls the disk")
	}
	reopens(t, "refused", d, 1, 2, v)
	d.Stop(0)
	for _, e := range append(refusedByPut(), refusedByApply(2, 5)...) {
		expect(t, "refused, dead", saved(t, m, e), api.ErrArg)
	}
	expect(t, "dead", saved(t, m, api.Edit{}), api.ErrDead)
	tells(t, "dead", m, 1, 2, v)
}

func TestSaveWhoseAppendFails(t *testing.T) {
	_, views := story()
	m, d := started(t, 100000)
	was, _ := fileOf(t, 0)
	for range 3 {
		d.Fail(1)
		calls := d.Calls()
		expect(t, "Append", saved(t, m, api.Edit{Floor: 5}), api.ErrFull)
		if d.Calls() != calls+1 {
			t.Error("behind the error of its Append Save goes on")
		}
		tells(t, "Append", m, 1, 1, views[0])
		holds(t, "Append", d, "current", currentOf(1), "man.1", was)
		reopens(t, "Append", d, 1, 1, views[0])
	}
	done(t, saved(t, m, api.Edit{Floor: 5}))
	reopens(t, "behind it", d, 1, 2, views[1])
}

func TestSaveOnASmallDisk(t *testing.T) {
	_, views := story()
	first, _ := fileOf(t, 0)
	one := written(api.Edit{Floor: 5})
	m, d := started(t, len(first)+len(currentOf(1))+len(one))
	expect(t, "a long one", saved(t, m, api.Edit{Floor: topVersion}), api.ErrFull)
	tells(t, "a long one", m, 1, 1, views[0])
	done(t, saved(t, m, api.Edit{Floor: 5}))
	reopens(t, "just as long", d, 1, 2, views[1])
	expect(t, "no room", saved(t, m, api.Edit{}), api.ErrFull)
	tells(t, "no room", m, 1, 2, views[1])
}

// forty answers one of two lists of forty Files, and the Nums of the other.
func forty(which int) (add []api.File, drop []int) {
	for i := range 40 {
		add = append(add, file(3, topNum-40*which-i))
		drop = append(drop, topNum-40*(1-which)-i)
	}
	return add, drop
}

// A file has at most 250,000 bytes; a new one makes room.
func TestSaveUpToAFilesLength(t *testing.T) {
	m, d := started(t, 1<<20)
	v := m.View()
	v.Files, _ = forty(0)
	done(t, saved(t, m, api.Edit{Drop: []int{2}, Add: v.Files}))
	n, e := 1, api.OK
	for e == api.OK && n < 1000 {
		add, drop := forty(n % 2)
		if e = saved(t, m, api.Edit{Drop: drop, Add: add}); e == api.OK {
			v.Files = add
			n++
		}
	}
	expect(t, "too long", e, api.ErrLong)
	tells(t, "too long", m, 1, n+1, v)
	done(t, m.Rewrite())
	reopens(t, "laid anew", d, 2, 1, v)
	add, drop := forty(n % 2)
	done(t, saved(t, m, api.Edit{Drop: drop, Add: add}))
	v.Files = add
	reopens(t, "and goes on", d, 2, 2, v)
}

// 16.2: a Sync that fails makes it Broken, for ever; the View is the new one.
func TestSaveWhoseSyncFails(t *testing.T) {
	edits, views := story()
	for n := range edits {
		m, d := started(t, 100000)
		for _, e := range edits[:n] {
			done(t, saved(t, m, e))
		}
		b, v := fileOf(t, n+1)
		d.Fail(2)
		expect(t, "Sync", saved(t, m, edits[n]), api.ErrFull)
		broken(t, "Sync", m, d, 1, n+2, v)
		holds(t, "Sync", d, "current", currentOf(1), "man.1", b)
		// What lasts of it is all, or a part, or nothing: so Open lays it anew.
		opens(t, "not crashed", d.Copy(), 1, n+2, v)
		ahead, _ := fileOf(t, n)
		for keep := range len(b) - len(ahead) + 1 {
			c := d.Copy()
			c.Crash([]int{keep})
			switch keep {
			case 0:
				opens(t, "none is kept", c, 1, n+1, views[n])
			case len(b) - len(ahead):
				opens(t, "all is kept", c, 1, n+2, v)
			default:
				opens(t, "some is kept", c, 2, 1, views[n])
			}
		}
		done(t, d.Sync("man.1"))
		broken(t, "and it stays so", m, d, 1, n+2, v)
		d.Crash(nil)
		broken(t, "also behind a Crash", m, d, 1, n+2, v)
	}
}

func TestSaveOnADyingDisk(t *testing.T) {
	_, views := story()
	m, d := started(t, 100000)
	d.Stop(1)
	expect(t, "dies ahead of the Sync", saved(t, m, api.Edit{Floor: 5}), api.ErrDead)
	broken(t, "dead", m, d, 1, 2, views[1])
	d.Crash([]int{0})
	broken(t, "alive again", m, d, 1, 2, views[1])
	m = opens(t, "behind it", d, 1, 1, views[0])
	d.Stop(0)
	for range 3 {
		expect(t, "dead", saved(t, m, api.Edit{Floor: 5}), api.ErrDead)
		tells(t, "dead", m, 1, 1, views[0])
	}
	d.Crash(nil)
	d.Stop(2)
	done(t, saved(t, m, api.Edit{Floor: 5}))
	tells(t, "the last one", m, 1, 2, views[1])
	expect(t, "dead", m.Rewrite(), api.ErrDead)
	tells(t, "dead", m, 1, 2, views[1])
	d.Crash(losses()[1])
	reopens(t, "behind it", d, 1, 2, views[1])
}

// A file that is taken away beside the Manifest.
func TestSaveWithoutAFile(t *testing.T) {
	_, views := story()
	m, d := started(t, 100000)
	done(t, d.Remove("man.1"))
	for range 2 {
		expect(t, "gone", saved(t, m, api.Edit{Floor: 5}), api.ErrNone)
		tells(t, "gone", m, 1, 1, views[0])
	}
	done(t, m.Rewrite(), saved(t, m, api.Edit{Floor: 5}))
	reopens(t, "laid anew", d, 1, 2, views[1])
}

// Save and View go by the Manifest alone, also where its file is changed beside it.
func TestViewIsItsOwn(t *testing.T) {
	_, views := story()
	m, d := started(t, 100000)
	done(t, d.Append("man.1", written(api.Edit{Floor: 9, Add: row(file(0, 5))})))
	tells(t, "beside it", m, 1, 1, views[0])
	v := m.View()
	v.Files[0].Num, v.Log, v.Floor = 99, 98, 97
	_ = append(v.Files[:0], file(3, 3), file(3, 4))
	tells(t, "what was told is changed", m, 1, 1, views[0])
	if w := m.View(); !edit.Same(w, views[0]) || &w.Files[0] == &v.Files[0] {
		t.Error("View lends its Files")
	}
}
