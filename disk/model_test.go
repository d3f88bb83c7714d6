package disk

import (
	"math"
	"math/rand/v2"
	"slices"
	"strings"
	"testing"

	"clepsydra/api"
)

// model is a Disk by another hand: it forgets no file, and finds those of a
// Crash by the words of 4.3.
type model struct {
	quota, calls, stop, fail int
	dead                     bool
	files                    []*modelFile
	now, base                map[string]*modelFile
	made                     []*modelFile
	log                      []func(map[string]*modelFile)
}

type modelFile struct {
	data  string
	lasts int
}

func newModel(quota int) *model {
	return &model{quota: quota, stop: -1, fail: -1, now: map[string]*modelFile{}, base: map[string]*modelFile{}}
}

func good(name string) bool {
	return name != "" && len(name) <= 16 && !strings.ContainsFunc(name, func(r rune) bool {
		return !strings.ContainsRune("abcdefghijklmnopqrstuvwxyz0123456789.", r)
	})
}

// run is a call that counts: do answers what it answers if it is neither
// refused nor dead.
func (m *model) run(do func() api.Errno, names ...string) api.Errno {
	if slices.ContainsFunc(names, func(s string) bool { return !good(s) }) {
		return api.ErrName
	}
	m.calls++
	if m.dead {
		return api.ErrDead
	}
	m.stop, m.fail = max(m.stop-1, -1), max(m.fail-1, -1)
	e := api.ErrFull
	if m.fail != 0 {
		e = do()
	}
	if m.fail == 0 {
		m.fail = -1
	}
	m.dead = m.stop == 0
	return e
}

func (m *model) note(change func(map[string]*modelFile)) api.Errno {
	change(m.now)
	m.log = append(m.log, change)
	return api.OK
}

func (m *model) create(name string) api.Errno {
	return m.run(func() api.Errno {
		if m.now[name] != nil {
			return api.ErrExists
		}
		if len(m.now) > 63 {
			return api.ErrMany
		}
		f := &modelFile{}
		m.files = append(m.files, f)
		m.made = append(m.made, f)
		return m.note(func(n map[string]*modelFile) { n[name] = f })
	}, name)
}

func (m *model) append(name, b string) api.Errno {
	return m.run(func() api.Errno {
		f := m.now[name]
		switch {
		case f == nil:
			return api.ErrNone
		case len(f.data)+len(b) > 250000:
			return api.ErrLong
		case m.size()+len(b) > max(m.quota, 0):
			return api.ErrFull
		}
		f.data += b
		return api.OK
	}, name)
}

func (m *model) sync(name string) api.Errno {
	return m.run(func() api.Errno {
		f := m.now[name]
		if f == nil {
			return api.ErrNone
		}
		f.lasts = len(f.data)
		return api.OK
	}, name)
}

func (m *model) rename(a, b string) api.Errno {
	return m.run(func() api.Errno {
		if m.now[a] == nil {
			return api.ErrNone
		}
		if a == b {
			return api.OK
		}
		return m.note(func(n map[string]*modelFile) {
			if n[a] != nil {
				n[b] = n[a]
				delete(n, a)
			}
		})
	}, a, b)
}

func (m *model) remove(name string) api.Errno {
	return m.run(func() api.Errno {
		if m.now[name] == nil {
			return api.ErrNone
		}
		return m.note(func(n map[string]*modelFile) { delete(n, name) })
	}, name)
}

func (m *model) syncDir() api.Errno {
	return m.run(func() api.Errno {
		m.last()
		return api.OK
	})
}

func (m *model) last() {
	m.base = map[string]*modelFile{}
	for name, f := range m.now {
		m.base[name] = f
	}
	m.made, m.log = nil, nil
}

func (m *model) size() int {
	n := 0
	for _, f := range m.now {
		n += len(f.data)
	}
	return n
}

func (m *model) stopAt(n int) {
	if m.dead {
		return
	}
	m.stop = max(n, -1)
	m.dead = n == 0
}

func (m *model) failAt(n int) {
	m.fail = n
	if n < 1 {
		m.fail = -1
	}
}

func leads(n map[string]*modelFile, f *modelFile) bool {
	for _, g := range n {
		if f == g {
			return true
		}
	}
	return false
}

func (m *model) crash(keep []int) {
	i := 0
	next := func(behind int) int {
		i++
		if i > len(keep) {
			return behind
		}
		return keep[i-1]
	}
	for _, f := range m.files {
		loose := len(f.data) - f.lasts
		if loose == 0 || !leads(m.now, f) && !leads(m.base, f) && !slices.Contains(m.made, f) {
			continue
		}
		k := next(loose) % (loose + 1)
		if k < 0 {
			k += loose + 1
		}
		f.data = f.data[:f.lasts+k]
	}
	for _, change := range m.log {
		if k := next(0); k&1 == 0 {
			change(m.base)
		}
	}
	m.now = m.base
	m.last()
	for _, f := range m.now {
		f.lasts = len(f.data)
	}
	m.stop, m.fail, m.dead = -1, -1, false
}

func (m *model) told() string {
	if m.dead {
		return ""
	}
	var l []string
	for name, f := range m.now {
		l = append(l, name+"="+f.data)
	}
	slices.SortFunc(l, func(a, b string) int {
		a, _, _ = strings.Cut(a, "=")
		b, _, _ = strings.Cut(b, "=")
		return strings.Compare(a, b)
	})
	return strings.Join(l, " ")
}

func same(t *testing.T, d *Disk, m *model) {
	t.Helper()
	used := m.size()
	if m.dead {
		used = 0
	}
	if told(d) != m.told() || d.Used() != used || d.Calls() != m.calls || d.Dead() != m.dead {
		t.Fatalf("%q, not %q; Used %d, not %d; Calls %d, not %d; Dead %v, not %v", told(d), m.told(), d.Used(), used, d.Calls(), m.calls, d.Dead(), m.dead)
	}
}

// step does to both what the next numbers say.
func step(t *testing.T, d **Disk, m **model, next func() int) {
	t.Helper()
	name := func() string { return []string{"a", "b", "c", "d.0", "a", "b", "c", "d.0", "A", ""}[next()&255%10] }
	text := func() string { return "123456789"[:next()&7] }
	number := func() int { return []int{-1, 0, 1, 2, 3, 4, 7, math.MinInt, math.MaxInt}[next()&255%9] }
	switch next() & 255 % 16 {
	case 0, 1:
		s := name()
		expect(t, "Create", (*d).Create(s), (*m).create(s))
	case 2, 3, 4:
		s, b := name(), text()
		expect(t, "Append", (*d).Append(s, []byte(b)), (*m).append(s, b))
	case 5, 6:
		s := name()
		expect(t, "Sync", (*d).Sync(s), (*m).sync(s))
	case 7, 8:
		a, b := name(), name()
		expect(t, "Rename", (*d).Rename(a, b), (*m).rename(a, b))
	case 9, 10:
		s := name()
		expect(t, "Remove", (*d).Remove(s), (*m).remove(s))
	case 11:
		expect(t, "SyncDir", (*d).SyncDir(), (*m).syncDir())
	case 12:
		n := number()
		(*d).Stop(n)
		(*m).stopAt(n)
	case 13:
		n := number()
		(*d).Fail(n)
		(*m).failAt(n)
	case 14:
		keep := make([]int, next()&7)
		for i := range keep {
			keep[i] = number()
		}
		(*d).Crash(keep)
		(*m).crash(keep)
	case 15:
		c := (*d).Copy()
		(*d).Crash([]int{1, 1, 1})
		(*d).Remove("a")
		*d = c
	}
	same(t, *d, *m)
}

func TestAsTheModelDoes(t *testing.T) {
	for seed := range uint64(3000) {
		r := rand.New(rand.NewPCG(seed, 4))
		d, m := New(int(seed%40)), newModel(int(seed%40))
		for range 60 {
			step(t, &d, &m, func() int { return int(r.Uint32()) })
		}
		if t.Failed() {
			t.Fatal("seed", seed)
		}
	}
}

// 4.4: whatever is lost, what lasts is there, under each name to which nothing
// was done since names last lasted.
func TestWhatLastsIsThereBehindEveryCrash(t *testing.T) {
	for seed := range uint64(300) {
		r := rand.New(rand.NewPCG(seed, 5))
		d := New(1000)
		for _, name := range []string{"a", "b", "c", "keep.1", "keep.2"} {
			done(t, d.Create(name), d.Append(name, []byte("lasts-"+name)), d.Sync(name))
		}
		done(t, d.SyncDir())
		for range 30 {
			d.Stop(r.IntN(20))
			disturb(d, r)
			keep := make([]int, r.IntN(20))
			for i := range keep {
				keep[i] = int(r.Uint64())
			}
			d.Crash(keep)
			for _, name := range []string{"keep.1", "keep.2"} {
				if b, e := d.Read(name); e != api.OK || !strings.HasPrefix(string(b), "lasts-"+name) {
					t.Fatalf("seed %d: %q %d", seed, b, e)
				}
			}
		}
	}
}

// disturb does this and that, but nothing to the names that begin with keep.
func disturb(d *Disk, r *rand.Rand) {
	free := []string{"a", "b", "c", "d"}
	all := append(free, "keep.1", "keep.2")
	for range 20 {
		a, b := free[r.IntN(4)], free[r.IntN(4)]
		switch r.IntN(7) {
		case 0:
			d.Create(a)
		case 1, 2:
			d.Append(all[r.IntN(6)], []byte("more"))
		case 3:
			d.Sync(all[r.IntN(6)])
		case 4:
			d.Rename(a, b)
		case 5:
			d.Remove(a)
		case 6:
			d.SyncDir()
		}
	}
}
