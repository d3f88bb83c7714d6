package store

import (
	"fmt"
	"testing"

	"clepsydra/api"
	"clepsydra/disk"
)

// 18.1, 18.2: what is read-only

// busy answers a Store that has something to do for each call: two tables, a log of
// two batches, one of them Synced, and a delete that can be Purged.
func busy(t *testing.T) (s *Store, d *disk.Disk, synced, all []api.Item) {
	t.Helper()
	s, d, synced = four(t)
	done(t, s.SetMeta(api.Meta{Floor: 3, Lease: 9}))
	l := row(tomb(2, 3), smp(4, 4, 4, 4))
	done(t, applied(t, s, l), s.Sync())
	synced = plain(synced, l)
	l = row(smp(5, 5, 5, 5), tomb(1, 11))
	done(t, applied(t, s, l))
	return s, d, synced, plain(synced, l)
}

// breaker is a call that makes a Store read-only when its last-th call of the disk
// fails.
type breaker struct {
	call
	last int
}

func breakers() []breaker {
	return []breaker{
		{call{"Sync", (*Store).Sync}, 1},
		{call{"SetMeta", func(s *Store) api.Errno { return s.SetMeta(api.Meta{Floor: 4, Lease: 10}) }}, 2},
		{call{"Flush", (*Store).Flush}, 8},
		{call{"Step", func(s *Store) api.Errno { _, e := s.Step(); return e }}, 6},
		{call{"Purge, at its Flush", func(s *Store) api.Errno { return s.Purge(3) }}, 8},
		{call{"Purge", func(s *Store) api.Errno { return s.Purge(3) }}, 15},
	}
}

func TestReadOnly(t *testing.T) {
	for _, b := range breakers() {
		for _, stop := range []bool{false, true} {
			why := fmt.Sprint(b.name, ", ", stop)
			s, d, synced, all := busy(t)
			was, want := s.Stats(), api.ErrFull
			if d.Fail(b.last); stop {
				d.Fail(0)
				d.Stop(b.last - 1)
				want = api.ErrDead
			}
			if s.Stats().ReadOnly {
				t.Errorf("%s: it is read-only at first", why)
			}
			expect(t, why, b.do(s), want)
			has(t, why, s, all)
			if now := s.Stats(); b.name == "Sync" && now != (api.Stats{Items: was.Items, Buffered: was.Buffered, Files: was.Files, Batches: was.Batches, ReadOnly: true}) {
				t.Errorf("%s: Stats is %v, then %v", why, was, now)
			}
			closed(t, why, s, d)
			d.Stop(0)
			closed(t, why+", dead", s, d)
			// It stays so; another one goes on.
			lost, kept := d.Copy(), d.Copy()
			d.Crash(nil)
			closed(t, why+", crashed", s, d)
			has(t, why+", crashed", s, all)
			lost.Crash(losses()[1])
			kept.Crash(nil)
			opensAnew(t, why+", lost", b.name, lost, synced, all)
			opensAnew(t, why+", kept", b.name, kept, synced, all)
		}
	}
}

// opensAnew fails where what Open tells of d has not all that was Synced, or more
// than was told.
func opensAnew(t *testing.T, why, name string, d *disk.Disk, synced, all []api.Item) {
	t.Helper()
	s := opens(t, why, d)
	got := fmt.Sprint(stated(t, s))
	if got != fmt.Sprint(synced) && got != fmt.Sprint(all) && (name != "Purge" || got != fmt.Sprint(purged(all, 3))) {
		t.Fatalf("%s: State is %s", why, got)
	}
	m := s.Meta()
	if m != (api.Meta{Floor: 3, Lease: 9}) && (name != "SetMeta" || m != api.Meta{Floor: 4, Lease: 10}) {
		t.Fatalf("%s: Meta is %v", why, m)
	}
	done(t, applied(t, s, row(smp(9, 9, 9, 9))), s.Sync(), s.SetMeta(api.Meta{Floor: 8, Lease: 8}))
	has(t, why, s, plain(stated(t, s), row(smp(9, 9, 9, 9))))
	lasts(t, why+", and goes on", d, stated(t, s), api.Meta{Floor: 8, Lease: 8})
}

// Where no Crash came between, another one tells what this one told.
func TestReadOnlyAndOpenedAnew(t *testing.T) {
	for _, b := range breakers() {
		s, d, _, all := busy(t)
		d.Fail(b.last)
		expect(t, b.name, b.do(s), api.ErrFull)
		want := all
		if b.name == "Purge" {
			want = purged(all, 3)
		}
		z := opens(t, b.name, d)
		has(t, b.name, z, want)
		if z.Stats().ReadOnly || z.Meta() != s.Meta() {
			t.Errorf("%s: %v, %v", b.name, z.Stats(), z.Meta())
		}
		done(t, applied(t, z, row(smp(9, 9, 9, 9))), z.Sync(), z.SetMeta(api.Meta{Floor: 8, Lease: 8}))
		lasts(t, b.name, d, plain(want, row(smp(9, 9, 9, 9))), api.Meta{Floor: 8, Lease: 8})
	}
}

// Other errors make no Store read-only: each of these calls can be done again.
func TestErrorsThatLeaveAStoreOpen(t *testing.T) {
	for _, b := range breakers() {
		for k := 1; k < b.last; k++ {
			why := fmt.Sprint(b.name, " fails at ", k)
			if b.name == "Purge" && k == 8 {
				// The Sync of its Flush's Edit, of which TestReadOnly tells.
				continue
			}
			s, d, _, all := busy(t)
			was := answers(t, s)
			d.Fail(k)
			e := b.do(s)
			if b.name == "Purge" && k == 9 {
				// The Remove of its Flush: nothing is told of it.
				expect(t, why, e, api.OK)
				has(t, why, s, purged(all, 3))
				continue
			}
			expect(t, why, e, api.ErrFull)
			if answers(t, s) != was && (b.name != "Purge" || k < 9) {
				t.Errorf("%s: an answer is changed", why)
			}
			has(t, why, s, all)
			done(t, b.do(s))
			want := all
			if b.name == "Purge" || b.name == "Purge, at its Flush" {
				want = purged(all, 3)
			}
			has(t, why+", and again", s, want)
			done(t, s.Sync())
			lasts(t, why+", and again", d, want, s.Meta())
		}
	}
}

// Behind what was lost a log may be gone: its Sync fails by another error.
func TestSyncOfALogThatIsGone(t *testing.T) {
	s, d := started(t)
	done(t, applied(t, s, row(smp(1, 1, 1, 1))), d.Remove("log.1"))
	was := answers(t, s)
	expect(t, "gone", applied(t, s, row(smp(1, 2, 1, 1))), api.ErrNone)
	if answers(t, s) != was {
		t.Error("an Append that fails changes something")
	}
	expect(t, "gone", s.Sync(), api.ErrNone)
	closed(t, "gone", s, d)
	has(t, "gone", s, row(smp(1, 1, 1, 1)))
}
