package store

import (
	"fmt"
	"math"
	"strconv"
	"testing"

	"clepsydra/api"
)

// 18.3: Purge, View, Stats

func TestPurge(t *testing.T) {
	s, d := started(t)
	done(t, applied(t, s, row(smp(1, 1, 5, 1), smp(1, 2, 20, 1), smp(2, 1, 5, 1), smp(3, 1, 5, 1))), s.Flush())
	done(t, applied(t, s, row(tomb(1, 10), tomb(2, 11))), s.Flush())
	done(t, applied(t, s, row(tomb(3, 12), smp(4, 1, 1, 1))), s.Sync())
	has(t, "told", s, row(tomb(1, 10), smp(1, 2, 20, 1), tomb(2, 11), tomb(3, 12), smp(4, 1, 1, 1)))
	calls := d.Calls()
	done(t, s.Purge(11))
	// Nine calls flush; three make the table, one lasts its name, two the Edit, and
	// three take the elder ones away.
	if d.Calls() != calls+18 {
		t.Errorf("Purge takes %d calls", d.Calls()-calls)
	}
	want := row(smp(1, 2, 20, 1), tomb(3, 12), smp(4, 1, 1, 1))
	has(t, "purged", s, want)
	stands(t, "purged", s, api.Stats{Items: 3, Files: 1}, "8@3")
	names(t, "purged", d, "current log.7 man.1 tab.8")
	tabOf(t, d, 8, want)
	lasts(t, "purged", d, want, api.Meta{})
	// What was hidden came back nowhere; what is told anew is there.
	done(t, applied(t, s, row(smp(2, 1, 5, 1), smp(3, 1, 5, 1))), s.Sync())
	want = plain(want, row(smp(2, 1, 5, 1)))
	has(t, "told anew", s, want)
	lasts(t, "told anew", d, want, api.Meta{})
}

// A Purge of a version of which no delete is there does no more than a Flush.
func TestPurgeOfNone(t *testing.T) {
	for _, v := range []uint64{0, 1, 9} {
		s, d := started(t)
		was, same := answers(t, s), untouched(d)
		done(t, s.Purge(v))
		if answers(t, s) != was || !same() {
			t.Error("a Purge of an empty Store does something")
		}
		done(t, applied(t, s, row(tomb(1, 10), smp(1, 1, 9, 1), smp(2, 1, 5, 1))))
		calls := d.Calls()
		done(t, s.Purge(v))
		if d.Calls() != calls+9 {
			t.Errorf("Purge takes %d calls", d.Calls()-calls)
		}
		stands(t, "none", s, api.Stats{Items: 2, Files: 1}, "2@0")
		was, same = answers(t, s), untouched(d)
		done(t, s.Purge(v), s.Purge(v))
		if answers(t, s) != was || !same() {
			t.Error("a Purge of none does something")
		}
		lasts(t, "none", d, row(tomb(1, 10), smp(2, 1, 5, 1)), api.Meta{})
	}
}

func TestPurgeOfEachVersion(t *testing.T) {
	all := row(tomb(1, 1), smp(1, 1, 2, 1), tomb(2, 2), tomb(3, topVersion-1), tomb(4, topVersion), smp(5, 1, topVersion, 1), smp(6, 1, 1, 1))
	for _, v := range []uint64{0, 1, 2, 3, topVersion - 2, topVersion - 1, topVersion, topVersion + 1, math.MaxUint64} {
		s, d := started(t)
		done(t, applied(t, s, all), s.Purge(v))
		want := purged(all, v)
		has(t, fmt.Sprint(v), s, want)
		lasts(t, fmt.Sprint(v), d, want, api.Meta{})
		files := "4@3"
		if v == 0 {
			files = "2@0"
		}
		stands(t, fmt.Sprint(v), s, api.Stats{Items: len(want), Files: 1}, files)
	}
}

// Where nothing is left there is no file.
func TestPurgeOfAll(t *testing.T) {
	s, d := started(t)
	done(t, applied(t, s, row(smp(1, 1, 1, 1))), s.Flush(), applied(t, s, row(tomb(1, 7))), s.Purge(7))
	has(t, "all", s, nil)
	stands(t, "all", s, api.Stats{}, "")
	names(t, "all", d, "current log.5 man.1")
	lasts(t, "all", d, nil, api.Meta{})
	done(t, applied(t, s, row(smp(1, 1, 1, 1))), s.Flush())
	names(t, "and goes on", d, "current log.7 man.1 tab.6")
	lasts(t, "and goes on", d, row(smp(1, 1, 1, 1)), api.Meta{})
}

// The tables that a Purge makes have at most 200 items, and are all of level 3.
func TestPurgeOfTheGreatestState(t *testing.T) {
	for _, n := range []int{199, 200, 201, 1499} {
		s, d := started(t)
		l := many(5, 0, n, 9)
		done(t, applied(t, s, l[:n/2]), s.Flush(), applied(t, s, l[n/2:]), applied(t, s, row(tomb(9, 9))), s.Purge(9))
		stands(t, "purged", s, api.Stats{Items: n, Files: (n + 199) / 200}, filesFrom(6, (n+199)/200, 3))
		for i := 0; i < n; i += 200 {
			tabOf(t, d, 6+i/200, l[i:min(i+200, n)])
		}
		lasts(t, "purged", d, l, api.Meta{})
	}
}

// It takes the files of all levels, also those that no Step would.
func TestPurgeOfFilesOfAllLevels(t *testing.T) {
	v := api.View{Log: 30, Floor: 8, Files: []api.File{file(3, 1), file(0, 2), file(1, 3), file(2, 4)}}
	tables := map[int][]api.Item{
		1: row(smp(1, 1, 1, 1), smp(2, 1, 1, 1)),
		2: row(tomb(2, 5)),
		3: row(tomb(1, 9), smp(1, 2, 10, 1)),
		4: row(smp(2, 1, 2, 1), smp(2, 2, 6, 1)),
	}
	d := by(t, v, tables, row(smp(3, 1, 1, 1)))
	s := opens(t, "by another", d)
	done(t, s.Purge(5))
	want := row(tomb(1, 9), smp(1, 2, 10, 1), smp(2, 2, 6, 1), smp(3, 1, 1, 1))
	has(t, "all levels", s, want)
	names(t, "all levels", d, "current log.32 man.1 tab.33")
	tabOf(t, d, 33, want)
	lasts(t, "all levels", d, want, api.Meta{Floor: 8})
}

func TestPurgeThatFailsAtEachCall(t *testing.T) {
	l := row(tomb(1, 5), smp(1, 1, 9, 1))
	for k := 1; k <= 17; k++ {
		why := "fails at " + strconv.Itoa(k)
		s, d := started(t)
		done(t, applied(t, s, row(smp(1, 1, 4, 1))), s.Flush(), applied(t, s, l), s.Sync())
		was, calls := answers(t, s), d.Calls()
		d.Fail(k)
		e := s.Purge(5)
		switch {
		case k == 9 || k > 15:
			// Removes: nothing is told of them.
			expect(t, why, e, api.OK)
			has(t, why, s, l[1:])
			stands(t, why, s, api.Stats{Items: 1, Files: 1}, "6@3")
			lasts(t, why, d, l[1:], api.Meta{})
			continue
		case k < 8 && answers(t, s) != was:
			t.Errorf("%s: an answer is changed", why)
		case k > 9 && k < 15:
			// The Flush was done.
			stands(t, why, s, api.Stats{Items: 2, Files: 2}, "2@0 4@0")
		}
		expect(t, why, e, api.ErrFull)
		if d.Calls() != calls+k {
			t.Errorf("%s: it goes on", why)
		}
		has(t, why, s, l)
		if k == 15 {
			// Its Edit may last or not.
			c := d.Copy()
			c.Crash([]int{0})
			has(t, why+", lost", opens(t, why, c), l)
			c = d.Copy()
			c.Crash(nil)
			has(t, why+", kept", opens(t, why, c), l[1:])
		} else {
			lasts(t, why, d, l, api.Meta{})
		}
		if k == 8 || k == 15 {
			closed(t, why, s, d)
			continue
		}
		done(t, s.Purge(5))
		has(t, why+", and again", s, l[1:])
		lasts(t, why+", and again", d, l[1:], api.Meta{})
	}
}

// A Purge whose second half has no room leaves what its Flush did.
func TestPurgeWithoutRoom(t *testing.T) {
	s, d := started(t)
	l := append(many(1, 0, 300, 5), tomb(2, 7))
	done(t, applied(t, s, l))
	s = opens(t, "a small one", diskOf(t, d, d.Used()+len(tableOf(l))+60))
	was := stated(t, s)
	for n := range 2 {
		expect(t, "no room", s.Purge(7), api.ErrFull)
		has(t, "no room", s, was)
		stands(t, "no room", s, api.Stats{Items: 301, Files: 1}, "2@0")
		if n == 0 {
			lasts(t, "no room", s.disk, l, api.Meta{})
		}
	}
}
