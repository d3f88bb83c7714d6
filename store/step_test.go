package store

import (
	"fmt"
	"maps"
	"math/rand/v2"
	"slices"
	"strconv"
	"testing"

	"clepsydra/api"
	"clepsydra/disk"
	"clepsydra/level"
	"clepsydra/man"
)

// 18.2: Step

// steps fails where a Step of s does not do what did says.
func steps(t *testing.T, why string, s *Store, did bool) {
	t.Helper()
	got, e := s.Step()
	if got != did || e != api.OK {
		t.Fatalf("%s: Step is %v, %v", why, got, e)
	}
}

// rests fails where a Step of s does anything.
func rests(t *testing.T, why string, s *Store, d *disk.Disk) {
	t.Helper()
	was, same := answers(t, s), untouched(d)
	for range 2 {
		steps(t, why, s, false)
	}
	if answers(t, s) != was || !same() {
		t.Fatalf("%s: a Step that does nothing does something", why)
	}
}

func file(level, num int) api.File { return api.File{Level: level, Num: num} }

// four answers a Store with four tables of level 0.
func four(t *testing.T) (*Store, *disk.Disk, []api.Item) {
	t.Helper()
	s, d := started(t)
	var want []api.Item
	for i := range 4 {
		rests(t, "fewer than four", s, d)
		l := row(smp(1, uint64(i), uint64(10+i), 1), smp(2, 0, uint64(i+1), 1))
		done(t, applied(t, s, l), s.Flush())
		want = plain(want, l)
	}
	return s, d, want
}

func TestStep(t *testing.T) {
	s, d, want := four(t)
	stands(t, "four", s, api.Stats{Items: 5, Files: 4}, "2@0 4@0 6@0 8@0")
	before, _ := d.Read("man.1")
	calls := d.Calls()
	steps(t, "four", s, true)
	// Three calls make the table, one lasts its name, two the Edit, and four take the
	// elder ones away.
	if d.Calls() != calls+10 {
		t.Errorf("Step takes %d calls", d.Calls()-calls)
	}
	stands(t, "merged", s, api.Stats{Items: 5, Files: 1}, "10@1")
	names(t, "merged", d, "current log.9 man.1 tab.10")
	tabOf(t, d, 10, want)
	edit := written(api.Edit{Drop: []int{2, 4, 6, 8}, Add: []api.File{file(1, 10)}})
	if b, _ := d.Read("man.1"); string(b) != string(append(before, edit...)) {
		t.Errorf("the manifest has %x", b)
	}
	has(t, "merged", s, want)
	lasts(t, "merged", d, want, api.Meta{})
	rests(t, "merged", s, d)
}

// A Step looks at what is written out alone, not at the log.
func TestStepBesideBatches(t *testing.T) {
	s, d, want := four(t)
	done(t, applied(t, s, row(tomb(1, 50), smp(3, 1, 1, 1))), s.Sync())
	steps(t, "four", s, true)
	stands(t, "merged", s, api.Stats{Items: 3, Buffered: 2, Files: 1, Batches: 1}, "10@1")
	tabOf(t, d, 10, want)
	want = plain(want, row(tomb(1, 50), smp(3, 1, 1, 1)))
	has(t, "merged", s, want)
	lasts(t, "merged", d, want, api.Meta{})
	// Batches that were not Synced are not lost by it, nor made to last.
	s, d, want = four(t)
	done(t, applied(t, s, row(smp(9, 9, 9, 9))))
	steps(t, "four", s, true)
	c := d.Copy()
	c.Crash([]int{0})
	has(t, "lost", opens(t, "lost", c), want)
	has(t, "kept", s, plain(want, row(smp(9, 9, 9, 9))))
}

// Of the tables that are merged what another one hides, or wins over, goes.
func TestStepBesideOtherTables(t *testing.T) {
	v := api.View{Log: 20, Files: []api.File{file(0, 1), file(2, 2), file(0, 3), file(3, 4), file(0, 5), file(0, 6)}}
	tables := map[int][]api.Item{
		1: row(smp(1, 1, 5, 1), smp(1, 2, 9, 1)),
		2: row(tomb(1, 6), smp(2, 1, 9, 1)), // hides one of 1
		3: row(smp(2, 1, 8, 1), smp(2, 2, 8, 1)),
		4: row(smp(2, 2, 8, 1), smp(3, 1, 1, 1)), // has one of 3, the same
		5: row(tomb(3, 2)),                       // hides one of 4, which stays in 4
		6: row(smp(1, 2, 9, 2), smp(4, 1, 1, 1)), // wins over one of 1
	}
	d := by(t, v, tables, row(tomb(4, 9)))
	s := opens(t, "by another", d)
	want := plain(slices.Concat(slices.Collect(maps.Values(tables))...), row(tomb(4, 9)))
	has(t, "by another", s, want)
	steps(t, "by another", s, true)
	stands(t, "merged", s, api.Stats{Items: len(want), Buffered: 1, Files: 3, Batches: 1}, "2@2 4@3 21@1")
	names(t, "merged", d, "current log.20 man.1 tab.2 tab.21 tab.4")
	tabOf(t, d, 21, row(smp(1, 2, 9, 2), smp(2, 2, 8, 1), tomb(3, 2), smp(4, 1, 1, 1)))
	has(t, "merged", s, want)
	lasts(t, "merged", d, want, api.Meta{})
	rests(t, "merged", s, d)
}

// Tables of a merge have at most 200 items each.
func TestStepToSeveralTables(t *testing.T) {
	for _, x := range []struct {
		items int
		files string
	}{
		{1, "10@1"}, {199, "10@1"}, {200, "10@1"}, {201, "10@1 11@1"}, {400, "10@1 11@1"}, {1000, "10@1 11@1 12@1 13@1 14@1"},
	} {
		s, d := started(t)
		l := many(7, 0, x.items, 5)
		for range 4 {
			done(t, applied(t, s, l), s.Flush())
		}
		steps(t, "four", s, true)
		stands(t, "merged", s, api.Stats{Items: x.items, Files: (x.items + 199) / 200}, x.files)
		for i := 0; i < x.items; i += 200 {
			tabOf(t, d, 10+i/200, l[i:min(i+200, x.items)])
		}
		lasts(t, "merged", d, l, api.Meta{})
		// From level 1 one table at a time goes down, till it has no more than 200.
		for s.Stats().Files > 0 && !restsNow(s) {
			steps(t, "from level 1", s, true)
		}
		rests(t, "at the end", s, d)
		lasts(t, "at the end", d, l, api.Meta{})
		if n := level1(s); n > 200 {
			t.Errorf("%d items: level 1 has %d", x.items, n)
		}
	}
}

// restsNow tells whether nothing is over, by what the tables have.
func restsNow(s *Store) bool {
	var l []api.Held
	for _, t := range s.tabs {
		l = append(l, t.held())
	}
	return len(l) <= 20 && level.Done(l)
}

func level1(s *Store) int {
	n := 0
	for _, t := range s.tabs {
		if t.Level == 1 {
			n += t.table.Len()
		}
	}
	return n
}

// On level 1 the first table goes down, with those of level 2 that it touches.
func TestStepOfLevelsOneAndTwo(t *testing.T) {
	v := api.View{Log: 90, Files: []api.File{file(2, 1), file(1, 2), file(2, 3), file(1, 4), file(2, 5), file(0, 6), file(3, 7)}}
	tables := map[int][]api.Item{
		1: many(1, 0, 20, 3),    // ahead
		2: many(1, 20, 150, 4),  // the first of level 1
		3: many(1, 100, 100, 3), // touches it
		4: many(1, 180, 60, 4),
		5: many(1, 165, 30, 2), // touches it, too
		6: many(2, 0, 10, 1),
		7: many(1, 0, 300, 1),
	}
	var all []api.Item
	for _, l := range tables {
		all = append(all, l...)
	}
	want := plain(all)
	d := by(t, v, tables)
	s := opens(t, "by another", d)
	steps(t, "by another", s, true)
	// What is merged are the times 20 to 199, of which 4 has those from 180 on.
	stands(t, "level 1", s, api.Stats{Items: len(want), Files: 5}, "1@2 4@1 6@0 7@3 91@2")
	tabOf(t, d, 91, append(many(1, 20, 150, 4), many(1, 100, 100, 3)[70:80]...))
	has(t, "level 1", s, want)
	lasts(t, "level 1", d, want, api.Meta{})
	rests(t, "level 1", s, d)
	// Level 2 has more than 2,000 items: its first table goes to level 3.
	v = api.View{Log: 90, Files: []api.File{file(3, 9), file(2, 1), file(2, 2), file(3, 3)}}
	tables = map[int][]api.Item{9: many(2, 0, 50, 1), 1: many(1, 0, 901, 1), 2: many(1, 800, 1100, 1), 3: many(1, 900, 10, 1)}
	d = by(t, v, tables)
	s = opens(t, "level 2", d)
	want = stated(t, s)
	steps(t, "level 2", s, true)
	stands(t, "level 2", s, api.Stats{Items: len(want), Files: 7}, "9@3 2@2 91@3 92@3 93@3 94@3 95@3")
	has(t, "level 2", s, want)
	lasts(t, "level 2", d, want, api.Meta{})
	rests(t, "level 2", s, d)
}

// Up to 20 files go by their levels, 21 or more all go to level 3.
func TestStepOfMoreThanTwentyFiles(t *testing.T) {
	for _, n := range []int{20, 21, 30, 40} {
		v := api.View{Log: 90}
		tables := map[int][]api.Item{}
		var want []api.Item
		for i := 1; i <= n; i++ {
			v.Files = append(v.Files, file(3, i))
			tables[i] = many(i, 0, 10, uint64(i))
			want = append(want, tables[i]...)
		}
		d := by(t, v, tables)
		s := opens(t, "by another", d)
		if n == 20 {
			rests(t, "20", s, d)
			// Though level 0 is over.
			for i := range 3 {
				done(t, applied(t, s, row(smp(100+i, 0, 1, 1))), s.Flush())
				want = append(want, smp(100+i, 0, 1, 1))
			}
		}
		steps(t, "more than 20", s, true)
		first := s.View().Files[0].Num
		stands(t, "more than 20", s, api.Stats{Items: len(want), Files: (len(want) + 199) / 200}, filesFrom(first, (len(want)+199)/200, 3))
		if first != s.View().Log+1 {
			t.Errorf("%d files: the first of the new ones is %d", n, first)
		}
		lasts(t, "more than 20", d, want, api.Meta{})
		rests(t, "more than 20", s, d)
	}
}

func filesFrom(first, n, level int) string {
	v := api.View{}
	for i := range n {
		v.Files = append(v.Files, file(level, first+i))
	}
	return filesOf(v)
}

// With 20 files, of which four are of level 0, only these go.
func TestStepOfTwentyFiles(t *testing.T) {
	v := api.View{Log: 90}
	tables := map[int][]api.Item{}
	for i := 1; i <= 20; i++ {
		v.Files = append(v.Files, file(3, i))
		tables[i] = row(smp(i, 0, 1, 1))
	}
	v.Files[2].Level, v.Files[17].Level, v.Files[18].Level, v.Files[19].Level = 0, 0, 0, 0
	d := by(t, v, tables)
	s := opens(t, "20", d)
	steps(t, "20", s, true)
	if n := s.Stats().Files; n != 17 || s.View().Files[16] != file(1, 91) {
		t.Errorf("%d files: %s", n, filesOf(s.View()))
	}
	tabOf(t, d, 91, row(smp(3, 0, 1, 1), smp(18, 0, 1, 1), smp(19, 0, 1, 1), smp(20, 0, 1, 1)))
	rests(t, "20", s, d)
}

// Where nothing is left there is no table.
func TestStepToNone(t *testing.T) {
	v := api.View{Log: 9, Files: []api.File{file(0, 1), file(0, 2), file(0, 3), file(0, 4), file(2, 5), file(0, 6)}}
	tables := map[int][]api.Item{1: row(smp(1, 1, 1, 1)), 2: row(smp(1, 2, 1, 1)), 3: row(smp(1, 3, 1, 1)), 4: row(smp(1, 3, 2, 1)), 5: row(tomb(1, 5)), 6: nil}
	d := by(t, v, tables)
	s := opens(t, "by another", d)
	calls := d.Calls()
	steps(t, "all are hidden", s, true)
	// One call lasts names, two the Edit, five take the elder ones away.
	if d.Calls() != calls+8 {
		t.Errorf("Step takes %d calls", d.Calls()-calls)
	}
	stands(t, "all are hidden", s, api.Stats{Items: 1, Files: 1}, "5@2")
	names(t, "all are hidden", d, "current log.9 man.1 tab.5")
	lasts(t, "all are hidden", d, row(tomb(1, 5)), api.Meta{})
	rests(t, "all are hidden", s, d)
}

func TestStepWithoutANumber(t *testing.T) {
	for n, left := range map[int]int{topNum: 0, topNum - 1: 1, topNum - 4: 4} {
		s, d := started(t)
		for range 4 {
			done(t, applied(t, s, many(7, 0, 1000, 5)), s.Flush())
		}
		put(t, d, man.Name("log", n), nil)
		was := answers(t, s)
		did, e := s.Step()
		expect(t, "no number", e, api.ErrMany)
		if did || answers(t, s) != was || len(d.List()) != 8+left {
			t.Errorf("from %d: %v, %q", n, did, d.List())
		}
		lasts(t, "no number", d, many(7, 0, 1000, 5), api.Meta{})
		s = opens(t, "swept", d)
		steps(t, "swept", s, true)
		lasts(t, "swept", d, many(7, 0, 1000, 5), api.Meta{})
	}
}

func TestStepThatFailsAtEachCall(t *testing.T) {
	for k := 1; k <= 10; k++ {
		why := "fails at " + strconv.Itoa(k)
		s, d, want := four(t)
		was, calls := answers(t, s), d.Calls()
		d.Fail(k)
		did, e := s.Step()
		if k > 6 {
			// The Removes: nothing is told of them, and the others are done.
			expect(t, why, e, api.OK)
			stays := man.Name("tab", 2*(k-6))
			if !did || d.Calls() != calls+10 || len(d.List()) != 5 || !slices.Contains(d.List(), stays) {
				t.Errorf("%s: %v, %q", why, did, d.List())
			}
			stands(t, why, s, api.Stats{Items: 5, Files: 1}, "10@1")
			lasts(t, why, d, want, api.Meta{})
			continue
		}
		expect(t, why, e, api.ErrFull)
		if did || d.Calls() != calls+k {
			t.Errorf("%s: it goes on", why)
		}
		has(t, why, s, want)
		lasts(t, why, d, want, api.Meta{})
		if k == 6 {
			closed(t, why, s, d)
			continue
		}
		if answers(t, s) != was {
			t.Errorf("%s: an answer is changed", why)
		}
		steps(t, why+", and again", s, true)
		has(t, why+", and again", s, want)
		lasts(t, why+", and again", d, want, api.Meta{})
	}
}

// 18.5: Steps come to an end, with as few files as the levels allow, and one more
// does nothing.
func TestStepsComeToAnEnd(t *testing.T) {
	for seed := range uint64(20) {
		r := rand.New(rand.NewPCG(183, seed))
		s, d := started(t)
		var want []api.Item
		for n := range 60 {
			l := many(r.IntN(5), r.IntN(300), 1+r.IntN(150), 1+r.Uint64N(60))
			if r.IntN(12) == 0 {
				l = row(tomb(r.IntN(5), 1+r.Uint64N(60)))
			}
			if applied(t, s, l) == api.OK {
				want = plain(want, l)
			}
			if r.IntN(3) == 0 {
				s.Flush()
			}
			if r.IntN(12) > 0 {
				continue
			}
			for at := 0; ; at++ {
				did, e := s.Step()
				done(t, e)
				if !did {
					break
				}
				if at > 60 {
					t.Fatalf("%d, %d: Steps go on, with %s", seed, n, filesOf(s.View()))
				}
			}
			rests(t, fmt.Sprint(seed, ", ", n), s, d)
			if !restsNow(s) {
				t.Fatalf("%d, %d: %s is at rest", seed, n, filesOf(s.View()))
			}
			has(t, fmt.Sprint(seed, ", ", n), s, want)
		}
	}
}
