package man

import (
	"slices"
	"strconv"
	"testing"

	"clepsydra/api"
	"clepsydra/disk"
	"clepsydra/edit"
)

// 16.2: Rewrite

func TestRewrite(t *testing.T) {
	edits, views := story()
	m, d := started(t, 100000)
	number := 1
	for i := range views {
		for range 2 {
			calls := d.Calls()
			done(t, m.Rewrite())
			number++
			// All that New takes, and the Remove of the elder file.
			if d.Calls() != calls+callsOfNew+1 {
				t.Errorf("Rewrite takes %d calls", d.Calls()-calls)
			}
			tells(t, "laid anew", m, number, 1, views[i])
			holds(t, "laid anew", d, "current", currentOf(uint64(number)), "man."+strconv.Itoa(number), written(edit.Whole(views[i])))
			reopens(t, "laid anew", d, number, 1, views[i])
		}
		if i < len(edits) {
			done(t, saved(t, m, edits[i]))
			reopens(t, "and goes on", d, number, 2, views[i+1])
		}
	}
}

// The new file's number is above that of each man file there is; all the others go,
// and nothing else does.
func TestRewriteBesideOtherFiles(t *testing.T) {
	_, views := story()
	others := []any{"log.1", text(5), "log.700", text(4), "tab.2", text(6), "tab.900", text(4), "man", text(2), "man.", text(3), "man.01", text(4), "man.0", text(2), "man.5x", text(1), "man.1073741825", text(2), "currents", text(3)}
	for _, x := range []struct {
		elder []any
		next  int
	}{
		{nil, 2},
		{[]any{"current.tmp", []byte(nil)}, 2},
		{[]any{"current.tmp", currentOf(7)}, 2},
		{[]any{"man.2", text(4)}, 3},
		{[]any{"man.9", text(4), "man.10", text(4), "man.8", text(0)}, 11},
		{[]any{"man.100", text(4), "man.99", text(4), "current.tmp", text(9)}, 101},
		{[]any{"man.1073741823", text(4), "man.3", text(4)}, topNum},
	} {
		m, d := started(t, 100000)
		for l := append(slices.Clone(others), x.elder...); len(l) > 0; l = l[2:] {
			put(t, d, l[0].(string), l[1].([]byte))
		}
		done(t, m.Rewrite())
		tells(t, "laid anew", m, x.next, 1, views[0])
		want := append([]any{"current", currentOf(uint64(x.next)), "man." + strconv.Itoa(x.next), written(edit.Whole(views[0]))}, others...)
		holds(t, "laid anew", d, want...)
		reopens(t, "laid anew", d, x.next, 1, views[0])
		done(t, saved(t, m, api.Edit{Floor: 5}))
		reopens(t, "and goes on", d, x.next, 2, views[1])
	}
}

func TestRewriteWhereNoNumberIsLeft(t *testing.T) {
	_, views := story()
	m, d := started(t, 100000)
	put(t, d, "man.1073741824", text(4))
	same := untouched(d)
	for range 2 {
		expect(t, "no number is left", m.Rewrite(), api.ErrName)
		tells(t, "no number is left", m, 1, 1, views[0])
	}
	if !same() {
		t.Error("a Rewrite without a number changes the disk")
	}
	done(t, saved(t, m, api.Edit{Floor: 5}))
	reopens(t, "and goes on", d, 1, 2, views[1])
	done(t, d.Remove("man.1073741824"), m.Rewrite())
	reopens(t, "behind it", d, 2, 1, views[1])
}

func TestRewriteAmongManyNames(t *testing.T) {
	_, views := story()
	m, d := started(t, 100000)
	for i := range 62 {
		done(t, d.Create("x."+strconv.Itoa(i)))
	}
	expect(t, "no name for the file", m.Rewrite(), api.ErrMany)
	tells(t, "no name for the file", m, 1, 1, views[0])
	done(t, d.Remove("x.0"))
	expect(t, "no name for current.tmp", m.Rewrite(), api.ErrMany)
	tells(t, "no name for current.tmp", m, 1, 1, views[0])
	done(t, saved(t, m, api.Edit{Floor: 5}))
	reopens(t, "and goes on", d, 1, 2, views[1])
	done(t, d.Remove("x.1"), d.Remove("x.2"), m.Rewrite())
	tells(t, "behind it", m, 3, 1, views[1])
	reopens(t, "behind it", d, 3, 1, views[1])
}

func TestRewriteOnASmallDisk(t *testing.T) {
	_, views := story()
	first, _ := fileOf(t, 0)
	// Room for the two files of man, but not for a second current.
	m, d := started(t, 2*len(first)+2*len(currentOf(1))-1)
	expect(t, "no room for current.tmp", m.Rewrite(), api.ErrFull)
	tells(t, "no room for current.tmp", m, 1, 1, views[0])
	reopens(t, "no room for current.tmp", d, 1, 1, views[0])
	expect(t, "no room for the file", m.Rewrite(), api.ErrFull)
	tells(t, "no room for the file", m, 1, 1, views[0])
	done(t, d.Remove("man.2"))
	done(t, saved(t, m, api.Edit{Floor: 5}))
	first, _ = fileOf(t, 1)
	holds(t, "and goes on", d, "current", currentOf(1), "man.1", first, "man.3", []byte(nil), "current.tmp", []byte(nil))
}

// script tells what stands behind each of the calls of a Rewrite of man.1, ahead of
// which these other files stand.
type script struct {
	ahead []any
	// states has the files behind 0, 1, 2 .. calls, up to the last SyncDir.
	states [][]any
	// renamed is how many calls there are up to the Rename.
	renamed int
}

func scripts(t *testing.T, v api.View, first []byte) []script {
	t.Helper()
	whole := written(edit.Whole(v))
	elder := []any{"current", currentOf(1), "man.1", first}
	with := func(l ...any) []any { return append(slices.Clone(elder), l...) }
	newer := []any{"current", currentOf(2), "man.1", first, "man.2", whole}
	tmp := with("man.2", whole, "current.tmp", currentOf(2))
	old := text(20)
	return []script{
		{nil, [][]any{
			elder, with("man.2", []byte(nil)), with("man.2", whole), with("man.2", whole),
			with("man.2", whole, "current.tmp", []byte(nil)), tmp, tmp, tmp, newer, newer,
		}, 8},
		{[]any{"current.tmp", old}, [][]any{
			with("current.tmp", old), with("man.2", []byte(nil), "current.tmp", old), with("man.2", whole, "current.tmp", old), with("man.2", whole, "current.tmp", old),
			with("man.2", whole), with("man.2", whole, "current.tmp", []byte(nil)), tmp, tmp, tmp, newer, newer,
		}, 9},
	}
}

// ready answers a Manifest of man.1 with two Edits, and beside it what s tells.
func (s script) ready(t *testing.T) (*Manifest, *disk.Disk) {
	t.Helper()
	m, d := started(t, 100000)
	done(t, saved(t, m, api.Edit{Floor: 5}))
	for l := s.ahead; len(l) > 0; l = l[2:] {
		put(t, d, l[0].(string), l[1].([]byte))
	}
	done(t, d.SyncDir())
	return m, d
}

func TestRewriteThatFailsAtEachCall(t *testing.T) {
	_, views := story()
	first, v := fileOf(t, 1)
	for _, s := range scripts(t, v, first) {
		for k := 1; k < len(s.states); k++ {
			why := "fails at " + strconv.Itoa(k)
			m, d := s.ready(t)
			calls := d.Calls()
			d.Fail(k)
			expect(t, why, m.Rewrite(), api.ErrFull)
			if d.Calls() != calls+k {
				t.Errorf("%s: it goes on", why)
			}
			holds(t, why, d, s.states[k-1]...)
			if k > s.renamed {
				broken(t, why, m, d, 2, 1, v)
				opens(t, why, d.Copy(), 2, 1, v)
				// The Rename is done or not: the View is the same.
				lost, kept := d.Copy(), d.Copy()
				lost.Crash([]int{1})
				kept.Crash([]int{0})
				opens(t, why+", lost", lost, 1, 2, v)
				opens(t, why+", kept", kept, 2, 1, v)
				continue
			}
			tells(t, why, m, 1, 2, v)
			reopens(t, why, d, 1, 2, v)
			done(t, saved(t, m, api.Edit{Add: row(file(0, 3), file(0, topNum))}))
			reopens(t, why+", and goes on", d, 1, 3, views[2])
			done(t, m.Rewrite())
			number := 3
			if k == 1 {
				number = 2
			}
			tells(t, why+", and again", m, number, 1, views[2])
			holds(t, why+", and again", d, "current", currentOf(uint64(number)), "man."+strconv.Itoa(number), written(edit.Whole(views[2])))
			reopens(t, why+", and again", d, number, 1, views[2])
		}
	}
}

func TestRewriteThatDiesAtEachCall(t *testing.T) {
	first, v := fileOf(t, 1)
	for _, s := range scripts(t, v, first) {
		for k := 1; k < len(s.states); k++ {
			why := "dies at " + strconv.Itoa(k)
			m, d := s.ready(t)
			calls := d.Calls()
			d.Stop(k - 1)
			expect(t, why, m.Rewrite(), api.ErrDead)
			if d.Calls() != calls+k {
				t.Errorf("%s: it goes on", why)
			}
			if k > s.renamed {
				broken(t, why, m, d, 2, 1, v)
			} else {
				tells(t, why, m, 1, 2, v)
			}
			d.Crash(nil)
			holds(t, why, d, s.states[k-1]...)
		}
		// The last call is answered, and nothing is Removed any more.
		m, d := s.ready(t)
		d.Stop(len(s.states) - 1)
		done(t, m.Rewrite())
		tells(t, "dies behind the last", m, 2, 1, v)
		d.Crash(losses()[1])
		holds(t, "dies behind the last", d, s.states[len(s.states)-1]...)
		opens(t, "dies behind the last", d, 2, 1, v)
	}
}

// Where one of the elder files can't be Removed, the others are; nothing is told.
func TestRewriteWhoseRemoveFails(t *testing.T) {
	_, views := story()
	for k := range 3 {
		m, d := started(t, 100000)
		names := []string{"man.1", "man.10", "man.9"}
		put(t, d, "man.10", text(3))
		put(t, d, "man.9", text(3))
		d.Fail(callsOfNew + 1 + k)
		done(t, m.Rewrite())
		tells(t, "one stays", m, 11, 1, views[0])
		left := d.List()
		if want := []string{"current", names[k], "man.11"}; len(left) != 3 || !slices.Equal(slices.Sorted(slices.Values(want)), left) {
			t.Errorf("behind the failure of a Remove there are %q, not %q", left, want)
		}
		reopens(t, "one stays", d, 11, 1, views[0])
		done(t, m.Rewrite())
		holds(t, "and goes at last", d, "current", currentOf(12), "man.12", written(edit.Whole(views[0])))
	}
}

func TestRewriteOfABrokenOne(t *testing.T) {
	_, views := story()
	m, d := started(t, 100000)
	d.Fail(2)
	expect(t, "Sync", saved(t, m, api.Edit{Floor: 5}), api.ErrFull)
	broken(t, "Sync", m, d, 1, 2, views[1])
	d.Stop(0)
	broken(t, "dead, too", m, d, 1, 2, views[1])
	if m, e := opened(t, d); m != nil || e != api.ErrDead {
		t.Error(m, e)
	}
	d.Crash(nil)
	n := opens(t, "anew", d, 1, 2, views[1])
	broken(t, "the elder one", m, d, 1, 2, views[1])
	done(t, n.Rewrite())
	tells(t, "the newer one", n, 2, 1, views[1])
}
