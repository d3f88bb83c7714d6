package store

import (
	"fmt"
	"math/rand/v2"
	"slices"
	"strconv"
	"testing"

	"clepsydra/api"
	"clepsydra/disk"
)

// 18.5, W2

// keeps answers lists for Crash: of the bytes of two files none, one, some, all but
// one or all are kept, and of the changes of names each choice of the first four.
func keeps() [][]int {
	l := [][]int{nil}
	for _, bytes := range [][]int{{0}, {1}, {9}, {-2}, {-1}, {0, 0}, {0, -1}, {-1, 0}, {7, 9}, {-2, -2}} {
		for choice := range 16 {
			keep := slices.Clone(bytes)
			for i := range 4 {
				keep = append(keep, choice>>i&1)
			}
			l = append(l, append(keep, slices.Repeat([]int{choice & 1}, 20)...))
		}
	}
	return l
}

// change is what may be under way when a Disk dies, or a call of it fails.
type change struct {
	why  string
	disk *disk.Disk
	do   func(s *Store) api.Errno
	// states are those that may be told behind it, metas likewise. Where it was
	// told as done, only the last of those may, if it is one that lasts.
	states [][]api.Item
	metas  []api.Meta
	lasts  bool
}

// told fails where s tells what c does not allow.
func (c change) told(t *testing.T, why string, s *Store, done bool) ([]api.Item, api.Meta) {
	t.Helper()
	l, m := fits(t, s), s.Meta()
	states, metas := c.states, c.metas
	if done {
		metas = metas[len(metas)-1:]
		if c.lasts {
			states = states[len(states)-1:]
		}
	}
	if !slices.ContainsFunc(states, func(x []api.Item) bool { return slices.Equal(x, l) }) || !slices.Contains(metas, m) {
		t.Fatalf("%s, told as done: %v: %.300v, %v, not of %.600v, %v", why, done, l, m, states, metas)
	}
	return l, m
}

// goesOn fails where d, behind a Crash, does not open, tells what c does not allow,
// or does not go on: what is told then lasts. It answers what was told.
func (c change) goesOn(t *testing.T, why string, d *disk.Disk, done bool) ([]api.Item, api.Meta) {
	t.Helper()
	x := d.Copy()
	s := opens(t, why, x)
	l, m := c.told(t, why, s, done)
	tidy(t, why, s, x)
	more := row(smp(250, 1, 1, 1), tomb(251, 1))
	for _, e := range []api.Errno{s.Apply(more), s.Sync(), s.SetMeta(api.Meta{Floor: 77, Cert: 77, At: 77, Lease: 77})} {
		expect(t, why+", and goes on", e, api.OK)
	}
	x.Crash(losses()[1])
	s = opens(t, why+", and goes on", x)
	if got := fits(t, s); !slices.Equal(got, plain(l, more)) || s.Meta() != (api.Meta{Floor: 77, Cert: 77, At: 77, Lease: 77}) {
		t.Fatalf("%s: what was told then is %.300v, %v", why, got, s.Meta())
	}
	return l, m
}

// tidy fails where there are other files than those that s names.
func tidy(t *testing.T, why string, s *Store, d *disk.Disk) {
	t.Helper()
	v := s.View()
	l := []string{"current", s.man.Name(), "log." + strconv.Itoa(v.Log)}
	for _, f := range v.Files {
		l = append(l, "tab."+strconv.Itoa(f.Num))
	}
	slices.Sort(l)
	if got := d.List(); !slices.Equal(got, l) {
		t.Fatalf("%s: the files are %q, not %q", why, got, l)
	}
}

// lives fails where a Disk that dies, or whose call fails, within c tells otherwise
// than c allows behind a Crash, and so on within each Open behind it, so many times
// in a row.
func (c change) lives(t *testing.T, again int, keeps [][]int) {
	t.Helper()
	seen := map[string]int{}
	for n, calls := 0, 0; n <= calls; n++ {
		for _, fails := range []bool{false, true} {
			why := fmt.Sprint(c.why, ", ", n, ", ", fails)
			d := c.disk.Copy()
			e := c.dies(t, d, n, fails)
			calls = d.Calls() - c.disk.Calls()
			for _, keep := range keeps {
				x := d.Copy()
				x.Crash(keep)
				key := fmt.Sprint(e == api.OK, kept(x))
				seen[key]++
				if seen[key] > 1 {
					continue
				}
				l, m := c.goesOn(t, why, x, e == api.OK)
				if again > 0 {
					open := change{why + ", Open", x, nil, [][]api.Item{l}, []api.Meta{m}, true}
					open.lives(t, again-1, append(losses(), []int{9, 0, 1, 0, 1}, []int{-2, 1, 0, 1, 0}))
				}
			}
		}
	}
}

// dies opens d and does c, while the Disk dies behind n calls, or the call behind
// them fails. Without do it dies within Open.
func (c change) dies(t *testing.T, d *disk.Disk, n int, fails bool) api.Errno {
	t.Helper()
	end := func() {
		if fails {
			d.Fail(n + 1)
		} else {
			d.Stop(n)
		}
	}
	if c.do == nil {
		end()
		_, e := opened(t, d)
		return e
	}
	s := opens(t, c.why, d)
	end()
	return c.do(s)
}

// busyDisk answers the Disk of a busy Store, some batches of which may be lost, and
// the States of each beginning of these.
func busyDisk(t *testing.T) (*disk.Disk, [][]api.Item) {
	t.Helper()
	s, d, synced, all := busy(t)
	l := row(smp(6, 6, 6, 6))
	done(t, applied(t, s, l))
	return d, [][]api.Item{synced, all, plain(all, l)}
}

func changes(t *testing.T) []change {
	t.Helper()
	d, states := busyDisk(t)
	last := states[2]
	m := api.Meta{Floor: 3, Lease: 9}
	metas, others := []api.Meta{m}, []api.Meta{m, {Floor: 4, Cert: 1, Lease: 11}}
	with := func(l ...[]api.Item) [][]api.Item { return append(slices.Clone(states), l...) }
	batch := row(tomb(4, 9), smp(7, 7, 7, 7))
	empty := disk.New(plenty)
	torn := d.Copy()
	torn.Crash([]int{60})
	return []change{
		{"a new one", empty, nil, [][]api.Item{nil}, []api.Meta{{}}, true},
		{"Open", d, nil, states, metas, false},
		{"Open of a torn log", torn, nil, states, metas, false},
		{"Apply", d, func(s *Store) api.Errno { return s.Apply(batch) }, with(plain(last, batch)), metas, false},
		{"Sync", d, (*Store).Sync, states, metas, true},
		{"Apply and Sync", d, func(s *Store) api.Errno { return all(func() api.Errno { return s.Apply(batch) }, s.Sync) }, with(plain(last, batch)), metas, true},
		{"Flush", d, (*Store).Flush, states, metas, true},
		{"Step", d, func(s *Store) api.Errno { _, e := s.Step(); return e }, states, metas, false},
		{"Purge", d, func(s *Store) api.Errno { return s.Purge(3) }, with(purged(last, 3)), metas, true},
		{"Purge of none", d, func(s *Store) api.Errno { return s.Purge(2) }, states, metas, true},
		{"Purge of all", d, func(s *Store) api.Errno { return s.Purge(99) }, with(purged(last, 99)), metas, true},
		{"SetMeta", d, func(s *Store) api.Errno { return s.SetMeta(others[1]) }, states, others, false},
		{"Flush, Step and Flush", d, func(s *Store) api.Errno {
			return all(s.Flush, func() api.Errno { _, e := s.Step(); return e }, func() api.Errno { return s.Apply(batch) }, s.Flush)
		}, with(plain(last, batch)), metas, true},
	}
}

func TestADeathAtEachCall(t *testing.T) {
	for _, c := range changes(t) {
		c.lives(t, 1, keeps())
	}
}

// The manifest is laid anew by Open, and there are files of others, and of changes
// that did not come to their end.
func TestADeathWithinOpen(t *testing.T) {
	d, states := busyDisk(t)
	metas := []api.Meta{{Floor: 3, Lease: 9}}
	s := opens(t, "busy", d)
	for range 31 {
		done(t, s.SetMeta(metas[0]))
	}
	for _, name := range []string{"current.tmp", "log.70", "tab.71", "man.5"} {
		put(t, d, name, []byte("junk"))
	}
	for _, keep := range []int{0, 60, -1} {
		c := d.Copy()
		c.Crash([]int{keep})
		change{"Open of much", c, nil, states, metas, false}.lives(t, 2, append(losses(), []int{9, 0, 1, 0, 1}, []int{-2, 1, 0, 1, 0}, []int{-1, 1, 1, 0, 0, 0, 1}))
	}
}

// walk is a Store that goes on, with what is known of what lasts.
type walk struct {
	d *disk.Disk
	s *Store
	// states are those that may be told behind a Crash, metas likewise; the last of
	// each is the one of now. What Purge was not told as done of may stand beside.
	states [][]api.Item
	metas  []api.Meta
}

// open opens it behind a Crash, during which the Disk may die again.
func (w *walk) open(t *testing.T, r *rand.Rand) {
	t.Helper()
	for {
		w.d.Crash([]int{r.IntN(90), r.IntN(90), r.IntN(9), r.IntN(9), r.IntN(9), r.IntN(9), r.IntN(9)}[r.IntN(7):])
		if r.IntN(2) == 0 {
			w.d.Stop(r.IntN(16))
		}
		s, e := opened(t, w.d)
		if e == api.ErrDead {
			continue
		}
		expect(t, "Open", e, api.OK)
		w.d.Stop(-1)
		l, m := fits(t, s), s.Meta()
		if !slices.ContainsFunc(w.states, func(x []api.Item) bool { return slices.Equal(x, l) }) || !slices.Contains(w.metas, m) {
			t.Fatalf("%v, %v, not of %v, %v", l, m, w.states, w.metas)
		}
		if !w.d.Dead() {
			tidy(t, "opened", s, w.d)
		}
		w.s, w.states, w.metas = s, [][]api.Item{l}, []api.Meta{m}
		return
	}
}

// step does something, and notes what may be told behind it.
func (w *walk) step(t *testing.T, r *rand.Rand) {
	t.Helper()
	now := w.states[len(w.states)-1]
	switch r.IntN(12) {
	case 0, 1:
		if w.s.Sync() == api.OK {
			w.states = [][]api.Item{now}
		}
	case 2, 3:
		if w.s.Flush() == api.OK {
			w.states = [][]api.Item{now}
		}
	case 4, 5:
		w.s.Step()
	case 6:
		v := r.Uint64N(50)
		if w.s.Purge(v) == api.OK {
			w.states = [][]api.Item{purged(now, v)}
		} else {
			// It may last all the same; then nothing more is told of this Store.
			w.states = slices.Insert(w.states, 0, purged(now, v))
		}
	case 7:
		m := api.Meta{Floor: 1 + r.Uint64N(9), Cert: 1 + r.Uint64N(9), At: 1 + r.Uint64N(9), Lease: 1 + r.Uint64N(9)}
		e := w.s.SetMeta(m)
		if w.metas = append(w.metas, m); e == api.OK {
			w.metas = w.metas[len(w.metas)-1:]
		} else if !w.s.Stats().ReadOnly {
			w.metas = w.metas[:len(w.metas)-1]
		}
	default:
		l := anyBatch(r, 6)
		if w.s.Apply(l) == api.OK {
			w.states = append(w.states, plain(now, l))
		}
	}
	if got := fits(t, w.s); !slices.Equal(got, w.states[len(w.states)-1]) {
		t.Fatalf("State is %v, not %v", got, w.states[len(w.states)-1])
	}
}

func TestCrashesAgainAndAgain(t *testing.T) {
	for seed := range uint64(500) {
		r := rand.New(rand.NewPCG(187, seed))
		s, d := started(t)
		w := &walk{d, s, [][]api.Item{nil}, []api.Meta{{}}}
		for range 60 {
			switch r.IntN(14) {
			case 0:
				d.Fail(1 + r.IntN(20))
			case 1:
				d.Stop(r.IntN(20))
			case 2:
				w.open(t, r)
			default:
				w.step(t, r)
			}
			if w.s.Stats().ReadOnly || d.Dead() {
				w.open(t, r)
			}
		}
	}
}

// What a quota that is used up ends changes no answer, and what lasts stays.
func TestSmallDisks(t *testing.T) {
	ends := map[api.Errno]int{}
	for seed := range uint64(150) {
		r := rand.New(rand.NewPCG(188, seed))
		s := opens(t, "a small one", disk.New(100+r.IntN(2500)))
		var now []api.Item
		for range 60 {
			was := answers(t, s)
			l, k, e := now, r.IntN(8), api.OK
			switch k {
			case 0, 1:
				e = s.Flush()
			case 2:
				_, e = s.Step()
			case 3:
				v := r.Uint64N(50)
				l, e = purged(now, v), s.Purge(v)
			case 4:
				e = s.Sync()
			default:
				b := anyBatch(r, 20)
				l, e = plain(now, b), applied(t, s, b)
			}
			ends[e]++
			switch {
			case e == api.OK:
				now = l
			case e != api.ErrFull && e != api.ErrMany:
				t.Fatalf("%d: %v", seed, e)
			case k != 3 && answers(t, s) != was:
				t.Fatalf("%d: %v changes an answer", seed, e)
			}
			has(t, "a small one", s, now)
		}
		done(t, s.Sync())
		s.disk.Crash(losses()[1])
		// A long manifest is laid anew, for which there may be no room.
		if s, e := opened(t, s.disk); e != api.ErrFull {
			expect(t, "at the end", e, api.OK)
			has(t, "at the end", s, now)
		}
	}
	if ends[api.ErrFull] < 1000 || ends[api.OK] < 1000 {
		t.Errorf("%v", ends)
	}
}
