package man

import (
	"fmt"
	"math/rand/v2"
	"slices"
	"strconv"
	"testing"

	"clepsydra/api"
	"clepsydra/disk"
	"clepsydra/edit"
	"clepsydra/frame"
)

// 16.4, W2

// stands fails where the files of d are not what m tells.
func stands(t *testing.T, why string, m *Manifest, d *disk.Disk) {
	t.Helper()
	n, ok := Number(m.Name(), "man")
	l := kept(d)
	b := []byte(l[m.Name()])
	v, end, e := edit.Replay(b)
	edits, _, _, _ := frame.Split(b)
	if !ok || l["current"] != string(currentOf(uint64(n))) || e != api.OK || end != len(b) || len(edits) != m.Count() || !edit.Same(v, viewed(t, m)) {
		t.Fatalf("%s: %s, %d Edits, %v, and the files are %.300q", why, m.Name(), m.Count(), m.View(), l)
	}
}

// keeps answers lists for Crash: of the bytes of one file none, one, some, all but
// one or all are kept, and of the changes of names each choice of the first six.
func keeps() [][]int {
	l := [][]int{nil}
	for _, first := range []int{0, 1, 9, -2, -1} {
		for choice := range 64 {
			keep := []int{first}
			for i := range 6 {
				keep = append(keep, choice>>i&1)
			}
			l = append(l, append(keep, slices.Repeat([]int{1}, 20)...))
		}
	}
	return l
}

// change is what may be under way when a Disk dies. Ahead of a New on an empty Disk
// there is no View.
type change struct {
	why           string
	disk          *disk.Disk
	do            func(d *disk.Disk) api.Errno
	ahead, behind api.View
}

func changes(t *testing.T) []change {
	t.Helper()
	edits, views := story()
	save := func(e api.Edit) func(d *disk.Disk) api.Errno {
		return func(d *disk.Disk) api.Errno {
			m, err := Open(d)
			if err != api.OK {
				return err
			}
			return m.Save(e)
		}
	}
	rewrite := func(d *disk.Disk) api.Errno {
		m, e := Open(d)
		if e != api.OK {
			return e
		}
		return m.Rewrite()
	}
	open := func(d *disk.Disk) api.Errno {
		_, e := Open(d)
		return e
	}
	fresh := func(d *disk.Disk) api.Errno {
		_, e := New(d, view())
		return e
	}
	two, v := fileOf(t, 2)
	torn := append(slices.Clone(two), written(edits[2])[:15]...)
	some := []any{"current", currentOf(5), "man.5", two, "man.3", text(9), "man.11", written(api.Edit{Log: 9}), "current.tmp", currentOf(11)}
	thirty := written(append([]api.Edit{edit.Whole(views[0])}, slices.Repeat([]api.Edit{{Floor: 5}}, 29)...)...)
	thirtyOne := append(slices.Clone(thirty), written(edits[1])...)
	return []change{
		{"New", diskOf(t), fresh, api.View{}, view()},
		{"New beside junk", diskOf(t, "current.tmp", currentOf(2), "man.2", text(9)), fresh, api.View{}, view()},
		{"New beside another", diskOf(t, some...), fresh, v, view()},
		{"Save", diskOf(t, "current", currentOf(1), "man.1", two), save(edits[2]), v, views[3]},
		{"Save beside junk", diskOf(t, some...), save(edits[2]), v, views[3]},
		{"Save of a 31st", diskOf(t, "current", currentOf(1), "man.1", thirty), save(edits[1]), views[1], views[2]},
		{"Rewrite", diskOf(t, "current", currentOf(1), "man.1", two), rewrite, v, v},
		{"Rewrite beside junk", diskOf(t, some...), rewrite, v, v},
		{"Open of a torn file", diskOf(t, "current", currentOf(1), "man.1", torn), open, v, v},
		{"Open of a torn file beside junk", diskOf(t, "current", currentOf(1), "man.1", torn, "man.2", two, "current.tmp", text(5)), open, v, v},
		{"Open of 31", diskOf(t, "current", currentOf(4), "man.4", thirtyOne), open, views[2], views[2]},
		{"Open of 31, and Rewrite", diskOf(t, "current", currentOf(4), "man.4", thirtyOne, "man.3", text(3)), rewrite, views[2], views[2]},
	}
}

// told fails where Open of d tells another View than c allows, and answers what it
// opened and what that tells: nothing, where there was nothing ahead of c.
func (c change) told(t *testing.T, why string, d *disk.Disk, done bool) (*Manifest, api.View) {
	t.Helper()
	d.Fail(0)
	m, e := opened(t, d)
	if e == api.ErrNone && c.ahead.Log == 0 && !done {
		return nil, api.View{}
	}
	expect(t, why, e, api.OK)
	v := viewed(t, m)
	if !edit.Same(v, c.behind) && (done || !edit.Same(v, c.ahead)) {
		t.Fatalf("%s: the View is %v, from %v to %v, %v", why, v, c.ahead, c.behind, done)
	}
	stands(t, why, m, d)
	return m, v
}

// goesOn fails likewise where d, behind a Crash, does not go on: what is saved then
// lasts.
func (c change) goesOn(t *testing.T, why string, d *disk.Disk, done bool) api.View {
	t.Helper()
	x := d.Copy()
	m, v := c.told(t, why, x, done)
	if m == nil {
		return v
	}
	expect(t, why+", Save", m.Save(api.Edit{Lease: 12345}), api.OK)
	stands(t, why+", Save", m, x)
	x.Crash(losses()[1])
	m, e := opened(t, x)
	expect(t, why+", Save and Open", e, api.OK)
	w := v
	w.Lease = 12345
	if !edit.Same(viewed(t, m), w) {
		t.Fatalf("%s: what was saved is %v, not %v", why, m.View(), w)
	}
	return v
}

// lives fails where a Disk that dies, or whose call fails, within c tells otherwise
// than c allows, and so on within each Open behind it, so many times in a row, with
// fewer of the lists for Crash.
func (c change) lives(t *testing.T, again int, keeps [][]int) {
	t.Helper()
	seen := map[string]bool{}
	look := func(why string, x *disk.Disk, told bool) {
		state := fmt.Sprint(told, kept(x))
		if seen[state] {
			return
		}
		seen[state] = true
		v := c.goesOn(t, why, x, told)
		if again > 0 && v.Log > 0 {
			open := change{why, x, func(d *disk.Disk) api.Errno { _, e := Open(d); return e }, v, v}
			open.lives(t, again-1, append(losses(), []int{9, 0, 1, 0, 1}, []int{-2, 1, 0, 1, 0}))
		}
	}
	for n, calls := 0, 0; n <= calls; n++ {
		for _, fails := range []bool{false, true} {
			why := c.why + ", " + strconv.Itoa(n) + ", " + strconv.FormatBool(fails)
			d := c.disk.Copy()
			if fails {
				d.Fail(n + 1)
			} else {
				d.Stop(n)
			}
			e := c.do(d)
			calls = d.Calls() - c.disk.Calls()
			if fails {
				c.told(t, why+", not crashed", d.Copy(), e == api.OK)
			}
			for _, keep := range keeps {
				x := d.Copy()
				x.Crash(keep)
				look(why, x, e == api.OK)
			}
		}
	}
}

func TestADeathAtEachCall(t *testing.T) {
	for _, c := range changes(t) {
		c.lives(t, 2, keeps())
	}
}

// plenty is a quota that no walk needs.
const plenty = 100000

// walk is a Manifest that goes on, with what is known of what lasts.
type walk struct {
	d *disk.Disk
	m *Manifest
	// told is the View that was told as saved, pending the one of the Save that was
	// under way.
	told, pending api.View
}

// open opens it behind a Crash, during which the Disk may die again. It answers
// false where the Disk has no room for a new file.
func (w *walk) open(t *testing.T, r *rand.Rand, quota int) bool {
	t.Helper()
	for {
		w.d.Crash([]int{r.IntN(40), r.IntN(9), r.IntN(9), r.IntN(9), r.IntN(9), r.IntN(9)}[r.IntN(6):])
		if r.IntN(2) == 0 {
			w.d.Stop(r.IntN(12))
		}
		m, e := opened(t, w.d)
		if e == api.ErrDead {
			continue
		}
		if e == api.ErrFull && quota < plenty {
			return false
		}
		expect(t, "Open", e, api.OK)
		w.d.Stop(-1)
		v := viewed(t, m)
		if !edit.Same(v, w.told) && !edit.Same(v, w.pending) {
			t.Fatalf("the View is %v, not %v nor %v", v, w.told, w.pending)
		}
		if !w.d.Dead() {
			stands(t, "opened", m, w.d)
		}
		w.m, w.told, w.pending = m, v, v
		return true
	}
}

func (w *walk) save(t *testing.T, r *rand.Rand) {
	t.Helper()
	e := anyEdit(r, w.m.View())
	was := w.m.View()
	switch saved(t, w.m, e) {
	case api.OK:
		w.told, w.pending = w.m.View(), w.m.View()
	default:
		if w.m.Broken() {
			w.pending = w.m.View()
		} else if !edit.Same(w.m.View(), was) {
			t.Fatalf("a Save that is refused leaves %v", w.m.View())
		}
	}
}

// anyEdit answers one that may mostly be Applied to v.
func anyEdit(r *rand.Rand, v api.View) api.Edit {
	e := api.Edit{}
	for _, f := range v.Files {
		if r.IntN(4) == 0 {
			e.Drop = append(e.Drop, f.Num)
		}
	}
	for range r.IntN(3) {
		e.Add = append(e.Add, file(r.IntN(4), 1+r.IntN(60)))
	}
	switch r.IntN(6) {
	case 0:
		e.Log = 1 + r.IntN(300)
	case 1:
		e.Floor, e.Lease = r.Uint64N(topVersion), r.Uint64N(1000)
	case 2:
		e.Cert, e.At = r.Uint64N(300), r.Uint64N(topVersion)
	}
	return e
}

func TestCrashesAgainAndAgain(t *testing.T) {
	ended := 0
	for seed := range uint64(1500) {
		r := rand.New(rand.NewPCG(164, seed))
		quota := []int{400, 2000, plenty, plenty}[r.IntN(4)]
		m, d := started(t, quota)
		w := &walk{d, m, m.View(), m.View()}
		for on, n := true, 0; on && n < 60; n++ {
			switch r.IntN(12) {
			case 0:
				d.Fail(1 + r.IntN(12))
			case 1:
				d.Stop(r.IntN(12))
			case 2, 3:
				w.m.Rewrite()
			case 4:
				on = w.open(t, r, quota)
			default:
				w.save(t, r)
			}
			if on && (w.m.Broken() || d.Dead()) {
				on = w.open(t, r, quota)
			}
			if !on {
				ended++
			}
		}
	}
	if ended > 700 {
		t.Errorf("%d walks ended early", ended)
	}
}
