package store

import (
	"fmt"
	"math"
	"math/rand/v2"
	"slices"
	"testing"

	"clepsydra/api"
	"clepsydra/disk"
)

// 18.1: Apply, Sync, State, Series, Get, Scan

func TestTheExample(t *testing.T) {
	s, _ := started(t)
	x := smp(3, 7, 9, 5)
	done(t, applied(t, s, row(x)))
	if got, ok := s.Get(3, 7); got != x || !ok {
		t.Error(got, ok)
	}
	has(t, "the example", s, row(x))
	stands(t, "the example", s, api.Stats{Items: 1, Buffered: 1, Batches: 1}, "")
}

func TestApply(t *testing.T) {
	s, d := started(t)
	var all, batches [][]api.Item
	for _, l := range [][]api.Item{
		row(smp(1, 5, 10, 1)),
		row(smp(1, 5, 9, 8)),                   // elder
		row(smp(1, 5, 10, 1)),                  // the same
		row(smp(1, 5, 10, 0)),                  // of the same version, and less
		row(smp(1, 5, 10, 2), smp(1, 4, 3, 3)), // greater, and another place
		row(tomb(1, 3)),                        // hides one
		row(smp(1, 4, 3, 9), smp(2, 0, 1, 1)),  // is hidden
		row(tomb(2, 7), smp(2, 0, 7, 1), smp(2, 1, 8, 1), tomb(2, 6)),
		row(smp(0, 0, 1, math.MinInt64), smp(255, topTime, topVersion, math.MaxInt64), tomb(254, topVersion)),
		row(tomb(1, 10)),
	} {
		calls := d.Calls()
		done(t, applied(t, s, l))
		all, batches = append(all, l), append(batches, l)
		if d.Calls() != calls+1 {
			t.Errorf("Apply takes %d calls", d.Calls()-calls)
		}
		has(t, "applied", s, plain(all...))
		stands(t, "applied", s, api.Stats{Items: len(plain(all...)), Buffered: len(best(slices.Concat(all...))), Batches: len(batches)}, "")
		if b, _ := d.Read("log.1"); string(b) != string(batchesOf(batches...)) {
			t.Fatalf("the log has %x", b)
		}
	}
	has(t, "at the end", s, row(smp(0, 0, 1, math.MinInt64), tomb(1, 10), tomb(2, 7), smp(2, 1, 8, 1), tomb(254, topVersion), smp(255, topTime, topVersion, math.MaxInt64)))
}

// refuses fails where Apply of l does not tell want, or does anything.
func refuses(t *testing.T, why string, s *Store, d *disk.Disk, l []api.Item, want api.Errno) {
	t.Helper()
	was, same := answers(t, s), untouched(d)
	expect(t, why, applied(t, s, l), want)
	if answers(t, s) != was || !same() {
		t.Fatalf("%s: it changes something", why)
	}
}

func TestApplyOfWhatIsRefused(t *testing.T) {
	s, d := started(t)
	for range 2 {
		refuses(t, "none", s, d, nil, api.ErrArg)
		refuses(t, "an empty one", s, d, []api.Item{}, api.ErrArg)
		refuses(t, "1,001", s, d, many(1, 0, 1001, 1), api.ErrLong)
		refuses(t, "10,000", s, d, many(1, 0, 10000, 1), api.ErrLong)
		refuses(t, "one place 1,001 times", s, d, slices.Repeat(row(smp(1, 1, 1, 1)), 1001), api.ErrLong)
		for _, x := range wrongItems() {
			refuses(t, "alone", s, d, row(x), api.ErrArg)
			refuses(t, "first", s, d, row(x, smp(1, 1, 1, 1)), api.ErrArg)
			refuses(t, "last", s, d, row(smp(1, 1, 1, 1), tomb(2, 1), x), api.ErrArg)
			// What is not Ok is told ahead of what is too long.
			refuses(t, "behind 1,000", s, d, append(many(1, 0, 1000, 1), x), api.ErrArg)
		}
		done(t, applied(t, s, row(smp(1, 1, 5, 1), tomb(2, 3))))
	}
	done(t, applied(t, s, many(1, 0, 1000, 6)))
	stands(t, "1,000", s, api.Stats{Items: 1001, Buffered: 1001, Batches: 3}, "")
}

// The bound is one of the State, not of what was told.
func TestApplyUpToTheGreatestState(t *testing.T) {
	s, d := started(t)
	done(t, applied(t, s, many(1, 0, 1000, 5)))
	refuses(t, "1,501", s, d, many(2, 0, 501, 5), api.ErrLong)
	refuses(t, "1,501 of two series", s, d, append(many(2, 0, 500, 5), tomb(3, 1)), api.ErrLong)
	done(t, applied(t, s, many(2, 0, 500, 5)))
	for range 2 {
		stands(t, "1,500", s, api.Stats{Items: 1500, Buffered: s.Stats().Buffered, Batches: s.Stats().Batches}, "")
		refuses(t, "one more", s, d, row(smp(3, 0, 1, 1)), api.ErrLong)
		refuses(t, "a delete more", s, d, row(tomb(3, 1)), api.ErrLong)
		refuses(t, "a delete of what is younger", s, d, row(tomb(1, 4)), api.ErrLong)
		// What is hidden, or takes a place that is taken, makes no State longer.
		done(t, applied(t, s, row(smp(1, 7, 4, 9))))
		done(t, applied(t, s, row(smp(1, 7, 6, 9))))
	}
	done(t, applied(t, s, row(tomb(2, 5))))
	has(t, "one series goes", s, plain(many(1, 0, 1000, 5), row(smp(1, 7, 6, 9), tomb(2, 5))))
	done(t, applied(t, s, many(2, 0, 1000, 5)))
	refuses(t, "1,501 again", s, d, many(3, 0, 500, 5), api.ErrLong)
	done(t, applied(t, s, many(3, 0, 499, 5)))
	// One batch may hide what it would be too long with.
	done(t, applied(t, s, append(many(4, 0, 900, 5), tomb(1, 9), tomb(4, 5))))
	lasts(t, "flushed", flushed(t, s, d), s.State(), api.Meta{})
}

func flushed(t *testing.T, s *Store, d *disk.Disk) *disk.Disk {
	t.Helper()
	done(t, s.Flush())
	return d
}

// The log's errors.
func TestApplyWhoseLogRefuses(t *testing.T) {
	s, d := started(t)
	done(t, applied(t, s, row(smp(1, 1, 1, 1))))
	d.Fail(1)
	was := answers(t, s)
	expect(t, "Append", applied(t, s, row(smp(1, 2, 1, 1))), api.ErrFull)
	expect(t, "ahead of it", applied(t, s, row(api.Item{})), api.ErrArg)
	if answers(t, s) != was {
		t.Error("an Append that fails changes something")
	}
	done(t, applied(t, s, row(smp(1, 3, 1, 1))), s.Sync())
	lasts(t, "and goes on", d, row(smp(1, 1, 1, 1), smp(1, 3, 1, 1)), api.Meta{})
	d.Stop(0)
	was = answers(t, s)
	for range 2 {
		expect(t, "dead", applied(t, s, row(smp(1, 2, 1, 1))), api.ErrDead)
		expect(t, "dead, wrong", applied(t, s, nil), api.ErrArg)
	}
	if answers(t, s) != was || s.Stats().ReadOnly {
		t.Error("an Apply on a dead Disk changes something")
	}
}

// A log has at most 250,000 bytes.
func TestApplyUpToALogsLength(t *testing.T) {
	s, d := started(t)
	e, n := api.OK, 0
	for ; e == api.OK && n < 100; n++ {
		e = applied(t, s, many(1, 0, 1000, uint64(n+1)))
	}
	expect(t, "too long", e, api.ErrLong)
	n--
	want := many(1, 0, 1000, uint64(n))
	stands(t, "too long", s, api.Stats{Items: 1000, Buffered: 1000, Batches: n}, "")
	has(t, "too long", s, want)
	done(t, s.Flush(), applied(t, s, many(1, 0, 1000, 999)))
	has(t, "behind a Flush", s, many(1, 0, 1000, 999))
	lasts(t, "behind a Flush", flushed(t, s, d), many(1, 0, 1000, 999), api.Meta{})
}

func TestApplyOnASmallDisk(t *testing.T) {
	_, d := started(t)
	l := many(1, 0, 4, 1)
	// A new Store has current.tmp ahead of current: no more than that.
	s := opens(t, "room for two", disk.New(d.Used()+len(batchesOf(l[:1], l[1:2]))))
	done(t, applied(t, s, l[:1]), applied(t, s, l[1:2]))
	was := answers(t, s)
	for range 2 {
		expect(t, "full", applied(t, s, l[2:3]), api.ErrFull)
		expect(t, "full", applied(t, s, l[2:]), api.ErrFull)
	}
	if answers(t, s) != was || s.Stats().ReadOnly {
		t.Error("an Apply without room changes something")
	}
	done(t, s.Sync())
	lasts(t, "full", s.disk, l[:2], api.Meta{})
}

func TestSync(t *testing.T) {
	s, d := started(t)
	done(t, s.Sync())
	var want []api.Item
	for i := range 5 {
		x := smp(i, uint64(i), 5, 1)
		done(t, applied(t, s, row(x)))
		// Ahead of its Sync it may be lost.
		c := d.Copy()
		c.Crash([]int{0})
		has(t, "lost", opens(t, "lost", c), want)
		want = append(want, x)
		was, calls := answers(t, s), d.Calls()
		done(t, s.Sync())
		if answers(t, s) != was || d.Calls() != calls+1 {
			t.Errorf("Sync takes %d calls", d.Calls()-calls)
		}
		lasts(t, "synced", d, want, api.Meta{})
	}
}

// State hangs on what was Applied alone: not on the order, nor on how it was parted,
// nor on Flushes and Steps.
func TestStateOfAnyOrder(t *testing.T) {
	for seed := range uint64(60) {
		r := rand.New(rand.NewPCG(181, seed))
		l := anyBatch(r, 60)
		want := plain(l)
		for range 3 {
			r.Shuffle(len(l), func(i, k int) { l[i], l[k] = l[k], l[i] })
			s, d := started(t)
			for rest := l; len(rest) > 0; {
				n := 1 + r.IntN(len(rest))
				done(t, applied(t, s, rest[:n]))
				rest = rest[n:]
				if r.IntN(3) == 0 {
					done(t, s.Flush())
				}
				if _, e := s.Step(); r.IntN(3) == 0 {
					done(t, e)
				}
			}
			has(t, fmt.Sprint(seed), s, want)
			has(t, fmt.Sprint(seed, " anew"), opens(t, "anew", d), want)
		}
	}
}

// anyBatch answers up to most items, few enough places for them to meet.
func anyBatch(r *rand.Rand, most int) []api.Item {
	l := make([]api.Item, 1+r.IntN(most))
	for i := range l {
		series, version := r.IntN(4), 1+r.Uint64N(40)
		if l[i] = smp(series, r.Uint64N(9), version, r.Int64N(3)); r.IntN(7) == 0 {
			l[i] = tomb(series, version)
		}
	}
	return l
}
