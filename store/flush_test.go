package store

import (
	"fmt"
	"slices"
	"strconv"
	"testing"

	"clepsydra/api"
	"clepsydra/disk"
	"clepsydra/edit"
	"clepsydra/man"
)

// 18.2: Flush

// tabOf fails where the table of this number has other items.
func tabOf(t *testing.T, d *disk.Disk, n int, want []api.Item) {
	t.Helper()
	b, e := d.Read(man.Name("tab", n))
	if e != api.OK || string(b) != string(tableOf(want)) {
		t.Fatalf("tab.%d is %x, %v, not %v", n, b, e, want)
	}
}

func TestFlush(t *testing.T) {
	s, d := started(t)
	l := row(smp(2, 3, 4, 5), tomb(1, 2), smp(1, 0, 3, 1))
	done(t, applied(t, s, l), applied(t, s, row(smp(0, 9, 1, 1))))
	calls := d.Calls()
	done(t, s.Flush())
	// Three calls make the table, two the log, one lasts their names, two the Edit,
	// and one takes the elder log away.
	if d.Calls() != calls+9 {
		t.Errorf("Flush takes %d calls", d.Calls()-calls)
	}
	want := plain(l, row(smp(0, 9, 1, 1)))
	stands(t, "flushed", s, api.Stats{Items: 4, Files: 1}, "2@0")
	names(t, "flushed", d, "current log.3 man.1 tab.2")
	tabOf(t, d, 2, want)
	if b, _ := d.Read("log.3"); len(b) != 0 {
		t.Errorf("the new log has %x", b)
	}
	if b, _ := d.Read("man.1"); string(b) != string(written(api.Edit{Log: 1}, api.Edit{Add: []api.File{{Level: 0, Num: 2}}, Log: 3})) {
		t.Errorf("the manifest has %x", b)
	}
	has(t, "flushed", s, want)
	lasts(t, "flushed", d, want, api.Meta{})
	done(t, applied(t, s, row(smp(0, 8, 1, 1))), s.Sync())
	lasts(t, "and goes on", d, plain(want, row(smp(0, 8, 1, 1))), api.Meta{})
}

func TestFlushOfNoBatch(t *testing.T) {
	s, d := started(t)
	for range 3 {
		was, same := answers(t, s), untouched(d)
		done(t, s.Flush(), s.Flush())
		if answers(t, s) != was || !same() {
			t.Error("a Flush of no batch does something")
		}
		done(t, applied(t, s, row(smp(1, 1, uint64(d.Calls()), 1))), s.Flush())
	}
	d.Stop(0)
	done(t, s.Flush())
	d.Crash(nil)
	stands(t, "at the end", s, api.Stats{Items: 1, Files: 3}, "2@0 4@0 6@0")
}

// Only what State has is written.
func TestFlushOfWhatStateHasNoLonger(t *testing.T) {
	s, d := started(t)
	done(t, applied(t, s, row(smp(1, 1, 5, 1), smp(1, 2, 9, 1), smp(2, 1, 5, 1))), s.Flush())
	done(t, applied(t, s, row(tomb(1, 7))), s.Flush())
	tabOf(t, d, 2, row(smp(1, 1, 5, 1), smp(1, 2, 9, 1), smp(2, 1, 5, 1)))
	tabOf(t, d, 4, row(tomb(1, 7)))
	// One is hidden, one does not win, one is the same as in a table, one is new,
	// one was hidden in the log itself, one won over another.
	done(t, applied(t, s, row(smp(1, 3, 6, 1), smp(1, 2, 8, 1), smp(2, 1, 5, 1), smp(2, 2, 5, 1), smp(3, 1, 4, 1), smp(4, 1, 4, 1))))
	done(t, applied(t, s, row(tomb(3, 4), smp(4, 1, 4, 2))))
	want := plain(row(smp(1, 2, 9, 1), tomb(1, 7), smp(2, 1, 5, 1), smp(2, 2, 5, 1), tomb(3, 4), smp(4, 1, 4, 2)))
	stands(t, "told", s, api.Stats{Items: 6, Buffered: 7, Files: 2, Batches: 2}, "2@0 4@0")
	done(t, s.Flush())
	tabOf(t, d, 6, row(smp(2, 1, 5, 1), smp(2, 2, 5, 1), tomb(3, 4), smp(4, 1, 4, 2)))
	stands(t, "flushed", s, api.Stats{Items: 6, Files: 3}, "2@0 4@0 6@0")
	has(t, "flushed", s, want)
	lasts(t, "flushed", d, want, api.Meta{})
}

// Where State has none of the items there is no table, but a new log all the same.
func TestFlushOfNoItems(t *testing.T) {
	s, d := started(t)
	done(t, applied(t, s, row(tomb(1, 7))), s.Flush())
	done(t, applied(t, s, row(smp(1, 1, 7, 1), smp(1, 2, 1, 1))), applied(t, s, row(tomb(1, 6))))
	stands(t, "told", s, api.Stats{Items: 1, Buffered: 3, Files: 1, Batches: 2}, "2@0")
	calls := d.Calls()
	done(t, s.Flush())
	if d.Calls() != calls+6 {
		t.Errorf("Flush takes %d calls", d.Calls()-calls)
	}
	stands(t, "flushed", s, api.Stats{Items: 1, Files: 1}, "2@0")
	names(t, "flushed", d, "current log.4 man.1 tab.2")
	lasts(t, "flushed", d, row(tomb(1, 7)), api.Meta{})
}

// With 30 files or more there is no Flush, unless there is nothing to do.
func TestFlushUpToThirtyFiles(t *testing.T) {
	s, d := started(t)
	var want []api.Item
	for i := range 30 {
		stands(t, "so far", s, api.Stats{Items: i, Files: i}, filesOf(s.View()))
		done(t, s.Flush(), applied(t, s, row(smp(1, uint64(i), 1, 1))), s.Flush())
		want = append(want, smp(1, uint64(i), 1, 1))
	}
	done(t, s.Flush())
	for n := range 3 {
		done(t, applied(t, s, row(smp(2, uint64(n), 1, 1))))
		want = append(want, smp(2, uint64(n), 1, 1))
		was, same := answers(t, s), untouched(d)
		expect(t, "30 files", s.Flush(), api.ErrMany)
		expect(t, "30 files", s.Purge(9), api.ErrMany)
		if answers(t, s) != was || !same() {
			t.Error("a Flush that is refused does something")
		}
	}
	done(t, s.Sync())
	lasts(t, "30 files", d, want, api.Meta{})
	ok, e := s.Step()
	if done(t, e, s.Flush()); !ok || s.Stats() != (api.Stats{Items: 33, Files: 2}) {
		t.Errorf("behind a Step: %v", s.Stats())
	}
	lasts(t, "behind a Step", d, want, api.Meta{})
	// Another wrote more than that.
	v := api.View{Log: 50}
	tables := map[int][]api.Item{}
	for n := 1; n <= 40; n++ {
		v.Files = append(v.Files, api.File{Level: n % 4, Num: n})
		tables[n] = row(smp(n, 1, 1, 1))
	}
	s = opens(t, "40 files", by(t, v, tables, row(smp(50, 1, 1, 1))))
	expect(t, "40 files", s.Flush(), api.ErrMany)
	stands(t, "40 files", s, api.Stats{Items: 41, Buffered: 1, Files: 40, Batches: 1}, filesOf(v))
}

// A table of level 0 has all items, up to the greatest State.
func TestFlushOfTheGreatestState(t *testing.T) {
	s, d := started(t)
	done(t, applied(t, s, many(1, 0, 1000, 5)), applied(t, s, many(2, 0, 500, 5)), s.Flush())
	stands(t, "1,500", s, api.Stats{Items: 1500, Files: 1}, "2@0")
	tabOf(t, d, 2, append(many(1, 0, 1000, 5), many(2, 0, 500, 5)...))
	lasts(t, "1,500", d, append(many(1, 0, 1000, 5), many(2, 0, 500, 5)...), api.Meta{})
}

// numberedUpto answers a Store beside whose files there is one of this name.
func numberedUpto(t *testing.T, name string) (*Store, *disk.Disk) {
	t.Helper()
	s, d := started(t)
	done(t, applied(t, s, row(smp(1, 1, 1, 1))), s.Sync())
	put(t, d, name, nil)
	return s, d
}

// New numbers are above those of all log and tab files on the disk, whoever made
// them.
func TestNumbersOfNewFiles(t *testing.T) {
	for name, first := range map[string]int{
		"log.7": 8, "tab.7": 8, "tab.10": 11, "log.99": 100, "log.1073741822": topNum - 1,
		"man.7": 2, "tab.07": 2, "tab": 2, "log.0": 2, "log.": 2, "xlog.9": 2, "tab.1073741825": 2,
	} {
		s, d := numberedUpto(t, name)
		done(t, s.Flush())
		stands(t, name, s, api.Stats{Items: 1, Files: 1}, fmt.Sprint(first, "@0"))
		if v := s.View(); v.Log != first+1 {
			t.Errorf("%s: the log is %d", name, v.Log)
		}
		lasts(t, name, d, row(smp(1, 1, 1, 1)), api.Meta{})
	}
}

func TestNumbersUpToTheGreatest(t *testing.T) {
	for name, made := range map[string]string{"tab.1073741824": "", "log.1073741824": "", "tab.1073741823": " tab.1073741824"} {
		s, d := numberedUpto(t, name)
		was := answers(t, s)
		for range 2 {
			expect(t, name, s.Flush(), api.ErrMany)
			expect(t, name, s.Purge(0), api.ErrMany)
			if answers(t, s) != was {
				t.Errorf("%s: a Flush that is refused changes something", name)
			}
		}
		left := []string{"current", "log.1", "man.1", name}
		if made != "" {
			left = append(left, made[1:])
		}
		slices.Sort(left)
		if !slices.Equal(d.List(), left) {
			t.Errorf("%s: %q are left, not %q", name, d.List(), left)
		}
		lasts(t, name, d, row(smp(1, 1, 1, 1)), api.Meta{})
		// An Open takes away what nothing names, and then there are numbers again.
		s = opens(t, name, d)
		done(t, s.Flush())
		stands(t, name, s, api.Stats{Items: 1, Files: 1}, "2@0")
	}
	// The last two.
	s, d := numberedUpto(t, "log.1073741822")
	done(t, s.Flush())
	names(t, "the last two", d, "current log.1073741822 log.1073741824 man.1 tab.1073741823")
	done(t, applied(t, s, row(smp(1, 2, 1, 1))))
	expect(t, "none is left", s.Flush(), api.ErrMany)
	has(t, "none is left", s, row(smp(1, 1, 1, 1), smp(1, 2, 1, 1)))
	done(t, s.Sync())
	lasts(t, "none is left", d, row(smp(1, 1, 1, 1), smp(1, 2, 1, 1)), api.Meta{})
}

// The calls of a Flush, one by one.
func TestFlushThatFailsAtEachCall(t *testing.T) {
	l := row(smp(1, 1, 1, 1), smp(1, 2, 1, 1))
	for k := 1; k <= 9; k++ {
		why := "fails at " + strconv.Itoa(k)
		s, d := started(t)
		done(t, applied(t, s, l[:1]), s.Flush(), s.Sync(), applied(t, s, l[1:]), s.Sync())
		was, calls := answers(t, s), d.Calls()
		d.Fail(k)
		e := s.Flush()
		if k == 9 {
			// The Remove of the elder log: nothing is told of it.
			expect(t, why, e, api.OK)
			stands(t, why, s, api.Stats{Items: 2, Files: 2}, "2@0 4@0")
			names(t, why, d, "current log.3 log.5 man.1 tab.2 tab.4")
			lasts(t, why, d, l, api.Meta{})
			continue
		}
		expect(t, why, e, api.ErrFull)
		if d.Calls() != calls+k {
			t.Errorf("%s: it goes on", why)
		}
		has(t, why, s, l)
		lasts(t, why, d, l, api.Meta{})
		if k == 8 {
			closed(t, why, s, d)
			stands(t, why, s, api.Stats{Items: 2, Buffered: 1, Files: 2, Batches: 1, ReadOnly: true}, "2@0 4@0")
			continue
		}
		if answers(t, s) != was {
			t.Errorf("%s: an answer is changed", why)
		}
		done(t, s.Flush())
		has(t, why+", and again", s, l)
		lasts(t, why+", and again", d, l, api.Meta{})
	}
}

// closed fails where s is not read-only: whatever it is asked to change, it tells
// so, and calls no disk.
func closed(t *testing.T, why string, s *Store, d *disk.Disk) {
	t.Helper()
	was, same := answers(t, s), untouched(d)
	for range 2 {
		for _, c := range changers() {
			expect(t, why+", "+c.name, c.do(s), api.ErrReadOnly)
		}
		if !s.Stats().ReadOnly || answers(t, s) != was || !same() {
			t.Fatalf("%s: a Store that is read-only does something", why)
		}
	}
}

// What the manifest has no room for.
func TestFlushWhoseEditHasNoRoom(t *testing.T) {
	s, d := started(t)
	done(t, applied(t, s, row(smp(1, 1, 1, 1))))
	edit := len(written(api.Edit{Add: []api.File{{Num: 2}}, Log: 3}))
	small := d.Used() + len(tableOf(row(smp(1, 1, 1, 1)))) + edit
	for quota := d.Used(); quota <= small; quota++ {
		s := opens(t, "a small one", disk.New(quota))
		done(t, applied(t, s, row(smp(1, 1, 1, 1))), s.Sync())
		was := answers(t, s)
		e := s.Flush()
		if quota == small {
			expect(t, "just room", e, api.OK)
			lasts(t, "just room", s.disk, row(smp(1, 1, 1, 1)), api.Meta{})
			continue
		}
		expect(t, "no room", e, api.ErrFull)
		if answers(t, s) != was {
			t.Errorf("%d bytes: an answer is changed", quota)
		}
		lasts(t, "no room", s.disk, row(smp(1, 1, 1, 1)), api.Meta{})
	}
}

// The manifest's file has at most 250,000 bytes, too.
func TestChangesUpToAManifestsLength(t *testing.T) {
	s, d := started(t)
	done(t, applied(t, s, row(tomb(1, 5))), s.Flush(), applied(t, s, row(smp(1, 1, 9, 1))), s.Sync())
	m, e := api.Meta{Floor: topVersion, Cert: topVersion, At: topVersion, Lease: topVersion}, api.OK
	for n := uint64(0); e == api.OK && n < 20000; n++ {
		last := m
		m.At = topVersion - n
		if e = s.SetMeta(m); e != api.OK {
			m = last
		}
	}
	expect(t, "too long", e, api.ErrLong)
	was := answers(t, s)
	expect(t, "Flush", s.Flush(), api.ErrLong)
	expect(t, "Purge", s.Purge(5), api.ErrLong)
	expect(t, "SetMeta", s.SetMeta(api.Meta{Floor: 1, Cert: topVersion, At: topVersion, Lease: topVersion}), api.ErrLong)
	if answers(t, s) != was || s.Stats().ReadOnly || s.Meta() != m {
		t.Error("what has no room changes something")
	}
	lasts(t, "too long", d, row(tomb(1, 5), smp(1, 1, 9, 1)), m)
	// An Open lays it anew.
	s = opens(t, "anew", d)
	done(t, s.Flush(), s.Purge(5))
	lasts(t, "anew", d, row(smp(1, 1, 9, 1)), m)
	if v := s.View(); !edit.Same(v, api.View{Log: v.Log, Files: v.Files, Floor: m.Floor, Cert: m.Cert, At: m.At, Lease: m.Lease}) {
		t.Error(v)
	}
}
