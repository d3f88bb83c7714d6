package store

import (
	"fmt"
	"maps"
	"math"
	"math/rand/v2"
	"slices"
	"strings"
	"testing"

	"clepsydra/api"
	"clepsydra/disk"
	"clepsydra/edit"
	"clepsydra/item"
	"clepsydra/level"
	"clepsydra/log"
	"clepsydra/man"
	"clepsydra/table"
)

// The second hand: a Store by the words of 18.1 to 18.4.

// model is a Store by another hand, on a Disk of its own.
type model struct {
	disk *disk.Disk
	man  *man.Manifest
	// log are the batches, tables the items of each table, by its number.
	log    [][]api.Item
	name   string
	tables map[int][]api.Item
	state  []api.Item
	only   bool
}

// all does one step behind the other, up to the first error.
func all(steps ...func() api.Errno) api.Errno {
	for _, step := range steps {
		if e := step(); e != api.OK {
			return e
		}
	}
	return api.OK
}

// make makes a file of these pieces that lasts as far as its name does.
func (m *model) make(name string, pieces ...[]byte) api.Errno {
	e := m.disk.Create(name)
	for _, b := range pieces {
		if e == api.OK {
			e = m.disk.Append(name, b)
		}
	}
	if e == api.OK {
		e = m.disk.Sync(name)
	}
	return e
}

func (m *model) next() (int, api.Errno) {
	n := 1
	for _, name := range m.disk.List() {
		for _, kind := range []string{"log", "tab"} {
			if k, ok := man.Number(name, kind); ok && k >= n {
				n = k + 1
			}
		}
	}
	if n > topNum {
		return 0, api.ErrMany
	}
	return n, api.OK
}

func (m *model) apply(l []api.Item) api.Errno {
	switch {
	case m.only:
		return api.ErrReadOnly
	case len(l) == 0 || slices.ContainsFunc(l, func(x api.Item) bool { return !item.Ok(x) }):
		return api.ErrArg
	case len(l) > 1000 || len(plain(m.state, l)) > 1500:
		return api.ErrLong
	}
	b, e := log.Batch(l)
	if e == api.OK {
		e = m.disk.Append(m.name, b)
	}
	if e == api.OK {
		m.log = append(m.log, slices.Clone(l))
		m.state = plain(m.state, l)
	}
	return e
}

func (m *model) sync() api.Errno {
	if m.only {
		return api.ErrReadOnly
	}
	e := m.disk.Sync(m.name)
	m.only = e != api.OK
	return e
}

func (m *model) save(e api.Edit) api.Errno {
	err := m.man.Save(e)
	m.only = m.man.Broken()
	return err
}

func (m *model) meta() api.Meta {
	v := m.man.View()
	return api.Meta{Floor: v.Floor, Cert: v.Cert, At: v.At, Lease: v.Lease}
}

func (m *model) setMeta(x api.Meta) api.Errno {
	if m.only {
		return api.ErrReadOnly
	}
	was := m.meta()
	for i, n := range numbersOf(&x) {
		if *n > topVersion || *n == 0 && *numbersOf(&was)[i] != 0 {
			return api.ErrArg
		}
	}
	return m.save(api.Edit{Floor: x.Floor, Cert: x.Cert, At: x.At, Lease: x.Lease})
}

// made makes tables of this level of l, of at most so many items each.
func (m *model) made(l []api.Item, most, level int) (map[int][]api.Item, []api.File, api.Errno) {
	tables, files := map[int][]api.Item{}, []api.File(nil)
	for len(l) > 0 {
		n := min(most, len(l))
		b, e := table.Make(l[:n])
		at := 0
		if e == api.OK {
			at, e = m.next()
		}
		if e == api.OK {
			e = m.make(man.Name("tab", at), b)
		}
		if e != api.OK {
			return nil, nil, e
		}
		tables[at], files = l[:n], append(files, file(level, at))
		l = l[n:]
	}
	return tables, files, api.OK
}

// with answers those of l that are in all.
func with(l, all []api.Item) []api.Item {
	there := map[api.Item]int{}
	for _, x := range all {
		there[x] = 1
	}
	return slices.DeleteFunc(slices.Clone(l), func(x api.Item) bool { return there[x] == 0 })
}

// relog makes a new log of these batches, and lets it and these files count.
func (m *model) relog(batches [][]api.Item, tables map[int][]api.Item, files []api.File) (string, api.Errno) {
	n, e := m.next()
	if e != api.OK {
		return "", e
	}
	elder, name := m.name, man.Name("log", n)
	var pieces [][]byte
	for _, l := range batches {
		pieces = append(pieces, batchesOf(l))
	}
	e = all(
		func() api.Errno { return m.make(name, pieces...) },
		m.disk.SyncDir,
		func() api.Errno { return m.save(api.Edit{Add: files, Log: n}) },
	)
	if e != api.OK {
		return "", e
	}
	m.name, m.log = name, batches
	maps.Copy(m.tables, tables)
	return elder, api.OK
}

func (m *model) flush() api.Errno {
	if m.only {
		return api.ErrReadOnly
	}
	if len(m.log) == 0 {
		return api.OK
	}
	if len(m.man.View().Files) >= 30 {
		return api.ErrMany
	}
	tables, files, e := m.made(with(best(slices.Concat(m.log...)), m.state), 1<<30, 0)
	if e != api.OK {
		return e
	}
	elder, e := m.relog(nil, tables, files)
	if e == api.OK {
		m.disk.Remove(elder)
	}
	return e
}

// merged lets tables of l, of this level, take the place of those of in.
func (m *model) merged(in []int, l []api.Item, level int) api.Errno {
	tables, files, e := m.made(l, 200, level)
	if e != api.OK {
		return e
	}
	e = all(m.disk.SyncDir, func() api.Errno { return m.save(api.Edit{Drop: in, Add: files}) })
	if e != api.OK {
		return e
	}
	for _, n := range in {
		delete(m.tables, n)
		m.disk.Remove(man.Name("tab", n))
	}
	maps.Copy(m.tables, tables)
	return api.OK
}

func (m *model) step() (bool, api.Errno) {
	if m.only {
		return false, api.ErrReadOnly
	}
	var held []api.Held
	var nums []int
	for _, f := range m.man.View().Files {
		l := m.tables[f.Num]
		h := api.Held{Num: f.Num, Level: f.Level, Len: len(l)}
		if len(l) > 0 {
			h.First, h.Last = item.Key(l[0]), item.Key(l[len(l)-1])
		}
		held, nums = append(held, h), append(nums, f.Num)
	}
	in, to, ok := level.Pick(held)
	if len(nums) > 20 {
		in, to, ok = nums, 3, true
	}
	if !ok {
		return false, api.OK
	}
	var l, all []api.Item
	for _, n := range in {
		l = append(l, m.tables[n]...)
	}
	for _, n := range nums {
		all = append(all, m.tables[n]...)
	}
	e := m.merged(in, with(best(l), plain(all)), to)
	return e == api.OK, e
}

func (m *model) purge(v uint64) api.Errno {
	if e := m.flush(); e != api.OK {
		return e
	}
	left := purged(m.state, v)
	if slices.Equal(left, m.state) {
		return api.OK
	}
	var nums []int
	for _, f := range m.man.View().Files {
		nums = append(nums, f.Num)
	}
	e := m.merged(nums, left, 3)
	if e == api.OK {
		m.state = left
	}
	return e
}

// isOwnName tells of each name whether it is Own.
func isOwnName(name string) bool {
	_, l := man.Number(name, "log")
	_, t := man.Number(name, "tab")
	_, n := man.Number(name, "man")
	return l || t || n || name == "current" || name == "current.tmp"
}

// found answers the View of the manifest on d.
func found(d *disk.Disk) (api.View, bool) {
	for _, name := range d.List() {
		n, ok := man.Number(name, "man")
		b, _ := d.Read("current")
		if ok && string(b) == string(currentOf(uint64(n))) {
			b, _ = d.Read(name)
			v, _, e := edit.Replay(b)
			return v, e == api.OK
		}
	}
	return api.View{}, false
}

func (m *model) open() (*model, api.Errno) {
	d := m.disk
	if d.Dead() {
		return nil, api.ErrDead
	}
	o := &model{disk: d, tables: map[int][]api.Item{}}
	var own []string
	fresh := true
	for _, name := range d.List() {
		if b, _ := d.Read(name); isOwnName(name) {
			own = append(own, name)
			fresh = fresh && (name == "current.tmp" || name == "man.1" || name == "log.1" && len(b) == 0)
		}
	}
	if fresh {
		return o, o.begin(own)
	}
	return o, o.resume(own)
}

func (m *model) begin(own []string) api.Errno {
	for _, name := range own {
		if e := m.disk.Remove(name); e != api.OK {
			return e
		}
	}
	m.name = "log.1"
	e := m.make(m.name)
	if e == api.OK {
		m.man, e = man.New(m.disk, api.View{Log: 1})
	}
	return e
}

func (m *model) resume(own []string) api.Errno {
	v, ok := found(m.disk)
	if !ok {
		return api.ErrCorrupt
	}
	for _, f := range v.Files {
		b, e := m.disk.Read(man.Name("tab", f.Num))
		t, err := table.Read(b)
		if e != api.OK || err != api.OK {
			return api.ErrCorrupt
		}
		m.tables[f.Num] = t.All()
		m.state = plain(m.state, t.All())
	}
	m.name = man.Name("log", v.Log)
	b, e := m.disk.Read(m.name)
	l, end, err := log.Replay(b)
	if e != api.OK || err != api.OK {
		return api.ErrCorrupt
	}
	m.log, m.state = l, plain(m.state, slices.Concat(l...))
	if m.man, e = man.Open(m.disk); e != api.OK {
		return e
	}
	if end < len(b) {
		elder, e := m.relog(l, nil, nil)
		if e == api.OK {
			e = m.disk.Remove(elder)
		}
		if e != api.OK {
			return e
		}
	}
	for _, name := range m.disk.List() {
		_, isTab := man.Number(name, "tab")
		n, _ := man.Number(name, "tab")
		if _, ok := m.tables[n]; isOwnName(name) && name != "current" && name != m.man.Name() && name != m.name && !(isTab && ok) {
			m.disk.Remove(name)
		}
	}
	return api.OK
}

func (m *model) stats() api.Stats {
	return api.Stats{
		Items: len(m.state), Buffered: len(best(slices.Concat(m.log...))), Files: len(m.man.View().Files),
		Batches: len(m.log), ReadOnly: m.only,
	}
}

// pair is a Store and its model, to which the same is done.
type pair struct {
	s *Store
	d *disk.Disk
	o *model
	// seldom says that there are few Steps, Purges and losses of power, so that many
	// files come together.
	seldom bool
}

func newPair(t *testing.T, quota int) *pair {
	t.Helper()
	p := &pair{d: disk.New(quota), o: &model{disk: disk.New(quota)}}
	p.open(t)
	return p
}

// both does it to both disks.
func (p *pair) both(do func(d *disk.Disk)) {
	do(p.d)
	do(p.o.disk)
}

// open opens both anew. Where that is refused, the elder ones go on.
func (p *pair) open(t *testing.T) {
	t.Helper()
	s, e := opened(t, p.d)
	o, want := p.o.open()
	expect(t, "Open", e, want)
	if e == api.OK {
		p.s, p.o = s, o
	}
}

// same fails where one can tell both apart.
func (p *pair) same(t *testing.T, why string) {
	t.Helper()
	if got, want := kept(p.d), kept(p.o.disk); !maps.Equal(got, want) || p.d.Calls() != p.o.disk.Calls() || p.d.Dead() != p.o.disk.Dead() {
		t.Fatalf("%s: the files are %.99q, behind %d calls, not %.99q, behind %d", why, got, p.d.Calls(), want, p.o.disk.Calls())
	}
	if p.s == nil {
		return
	}
	if got := fits(t, p.s); !slices.Equal(got, p.o.state) {
		t.Fatalf("%s: State is %.300v, not %.300v", why, got, p.o.state)
	}
	if got := p.s.Stats(); got != p.o.stats() || !edit.Same(p.s.View(), p.o.man.View()) {
		t.Fatalf("%s: %v, %v, not %v, %v", why, got, p.s.View(), p.o.stats(), p.o.man.View())
	}
}

// otherFile answers a file that stands beside those of the Store, or is one of them
// that another wrote.
func (p *pair) otherFile(next func() int) (string, []byte) {
	l := []string{"x", "current", "current.tmp", "log.1", "log.2", "log.7", "log.1073741823", "log.1073741824", "tab.2", "tab.3", "tab.900", "tab.1073741822", "tab.1073741824", "man.1", "man.2", "man.9", "man.1073741824", "log.01"}
	name := append(l, p.d.List()...)[next()%(len(l)+len(p.d.List()))]
	switch next() % 5 {
	case 0:
		return name, currentOf(uint64(next() % 4))
	case 1:
		return name, written(api.Edit{Log: 1 + next()%3, Add: []api.File{file(next()%4, 2+next()%3)}})
	case 2:
		return name, batchesOf(row(smp(next()%3, 1, 1, 1)))
	case 3:
		return name, tableOf(row(tomb(next()%3, 9), smp(9, 9, 9, 9)))
	}
	return name, []byte(strings.Repeat("x", next()%9))
}

// tampers does something to the files of both disks.
func (p *pair) tampers(next func() int) {
	name, b := p.otherFile(next)
	switch next() % 4 {
	case 0:
		p.both(func(d *disk.Disk) { d.Create(name); d.Append(name, b); d.Sync(name) })
	case 1:
		p.both(func(d *disk.Disk) { d.Remove(name) })
	case 2:
		p.both(func(d *disk.Disk) { d.Append(name, b) })
	case 3:
		old, _ := p.d.Read(name)
		if bit := 8 * len(old); bit > 0 {
			turn(old, next()%bit)
		}
		p.both(func(d *disk.Disk) { d.Remove(name); d.Create(name); d.Append(name, old); d.SyncDir() })
	}
	p.both(func(d *disk.Disk) { d.Stop(-1); d.Fail(0) })
}

// batch answers items that meet others, or, now and then, what is refused.
func batch(next func() int) []api.Item {
	r := rand.New(rand.NewPCG(184, uint64(next())))
	switch next() % 24 {
	case 0:
		return nil
	case 1:
		l := wrongItems()
		return append(anyBatch(r, 3), l[next()%len(l)])
	case 2:
		return many(next()%3, next()%50, next()%1100, 1+uint64(next()%60))
	case 3, 4, 5:
		return many(next()%3, next()%300, next()%150, 1+uint64(next()%60))
	case 6:
		return row(tomb(next()%3, 1+uint64(next()%60)))
	}
	return anyBatch(r, 9)
}

func metaOf(next func() int) api.Meta {
	var m api.Meta
	for _, n := range numbersOf(&m) {
		switch next() % 40 {
		case 0:
			*n = topVersion + uint64(next()%2)
		case 1:
			*n = math.MaxUint64
		case 2:
		default:
			*n = uint64(1 + next()%9)
		}
	}
	return m
}

// step does what the next numbers say, and answers what that was.
func (p *pair) step(t *testing.T, next func() int) string {
	t.Helper()
	k := next() % 40
	if p.seldom && k < 24 && next()%40 > 0 {
		k = 10 + 20*(next()%2)
	}
	switch {
	case k < 2:
		n := next() % 24
		p.both(func(d *disk.Disk) { d.Fail(n) })
	case k == 2:
		n := next() % 24
		p.both(func(d *disk.Disk) { d.Stop(n) })
	case k == 3 && next()%4 == 0:
		p.tampers(next)
		p.open(t)
		return "tampered"
	case k == 4:
		p.open(t)
		return "Open"
	case k < 8:
		keep := []int{next(), next(), next(), next(), next(), next()}[next()%6:]
		p.both(func(d *disk.Disk) { d.Crash(keep) })
		p.open(t)
		return "Crash"
	case k == 8:
		p.both(func(d *disk.Disk) { d.Stop(-1); d.Fail(0) })
	case p.s != nil:
		return p.change(t, k, next)
	}
	return ""
}

func (p *pair) change(t *testing.T, k int, next func() int) string {
	t.Helper()
	switch {
	case k < 16:
		expect(t, "Flush", p.s.Flush(), p.o.flush())
		return "Flush"
	case k < 22:
		did, e := p.s.Step()
		want, wantE := p.o.step()
		if expect(t, "Step", e, wantE); did != want {
			t.Fatalf("Step is %v, not %v", did, want)
		}
		return "Step"
	case k < 24:
		v := uint64(next() % 70)
		expect(t, "Purge", p.s.Purge(v), p.o.purge(v))
		return fmt.Sprint("Purge of ", v)
	case k < 26:
		expect(t, "Sync", p.s.Sync(), p.o.sync())
		return "Sync"
	case k < 28:
		m := metaOf(next)
		expect(t, "SetMeta", p.s.SetMeta(m), p.o.setMeta(m))
		return fmt.Sprint("SetMeta of ", m)
	}
	l := batch(next)
	expect(t, "Apply", applied(t, p.s, l), p.o.apply(l))
	return fmt.Sprintf("Apply of %.200v", l)
}

// 18.1 to 18.6

func TestStoresAgainstTheModel(t *testing.T) {
	opened, most := 0, 0
	for seed := range uint64(400) {
		r := rand.New(rand.NewPCG(185, seed))
		quota := plenty
		if r.IntN(8) == 0 {
			quota = []int{0, 60, 200, 1000, 5000, 20000}[r.IntN(6)]
		}
		p := newPair(t, quota)
		p.same(t, "New")
		steps := 50
		if p.seldom = seed%12 == 0; p.seldom {
			steps = 250
		}
		for range steps {
			p.same(t, p.step(t, func() int { return r.IntN(1 << 20) }))
			if p.s != nil {
				most = max(most, p.s.Stats().Files)
			}
		}
		if p.s == nil {
			continue
		}
		has(t, "at the end", p.s, p.o.state)
		if !p.s.Stats().ReadOnly {
			opened++
		}
	}
	if opened < 250 || most != 30 {
		t.Errorf("only %d Stores, with %d files at most", opened, most)
	}
}

// 18.6, W9: any bytes as files, any items, any numbers.
func FuzzNoCallPanics(f *testing.F) {
	l := row(tomb(2, 7), smp(3, 3, 3, 3))
	man1 := written(api.Edit{Log: 3, Add: []api.File{file(0, 2)}})
	f.Add(currentOf(1), man1, batchesOf(l), tableOf(l), 3, 2, uint64(9), uint64(9), int64(5), []byte{9, 30, 17, 23, 40, 5, 5, 5, 5, 5, 5, 0, 12, 18, 4})
	f.Add(currentOf(1), append(man1, 1), batchesOf(l)[:9], tableOf(l), -1, 9, uint64(math.MaxUint64), uint64(0), int64(math.MinInt64), []byte{30, 1, 2, 3, 9, 0, 9, 17, 3, 0})
	f.Add(currentOf(2), man1, []byte{}, tableOf(nil), 256, math.MinInt, uint64(1<<48), uint64(1<<40), int64(0), []byte{})
	f.Add([]byte{}, []byte{}, []byte{}, []byte{}, 0, 1, uint64(1), uint64(1<<48+1), int64(math.MaxInt64), []byte{3, 0, 1, 2, 3, 4, 5, 6, 7, 8})
	for seed := range uint64(40) {
		r := rand.New(rand.NewPCG(186, seed))
		script := make([]byte, r.IntN(80))
		for i := range script {
			script[i] = byte(r.IntN(256))
		}
		b := batchesOf(anyBatch(r, 9), anyBatch(r, 9))
		f.Add(currentOf(1), man1, b[:r.IntN(len(b)+1)], tableOf(plain(anyBatch(r, 40))), r.IntN(4), r.IntN(4), r.Uint64N(99), r.Uint64N(9), r.Int64N(9), script)
	}
	f.Fuzz(func(t *testing.T, current, man, log, tab []byte, series, kind int, time, version uint64, value int64, steps []byte) {
		p := newPair(t, plenty)
		p.both(func(d *disk.Disk) {
			for i, b := range [][]byte{current, man, log, tab} {
				name := []string{"current", "man.1", "log.3", "tab.2"}[i]
				d.Remove(name)
				d.Create(name)
				d.Append(name, b)
			}
			d.SyncDir()
		})
		p.open(t)
		p.same(t, "any bytes")
		x := api.Item{Series: series, Kind: kind, Time: time, Version: version, Value: value}
		m := api.Meta{Floor: time, Cert: version, At: uint64(value), Lease: 1}
		for _, l := range [][]api.Item{row(x), row(smp(1, time, version, value), x), row(tomb(series, version)), row(smp(series, time, version, value))} {
			expect(t, "Apply", applied(t, p.s, l), p.o.apply(l))
			p.same(t, "Apply")
		}
		expect(t, "SetMeta", p.s.SetMeta(m), p.o.setMeta(m))
		gets(t, p.s, p.o.state, series, time)
		scans(t, p.s, p.o.state, series, time, version)
		scans(t, p.s, p.o.state, series, version, time)
		expect(t, "Purge", p.s.Purge(version), p.o.purge(version))
		p.same(t, "Purge")
		for n := 0; len(steps) > 0 && n < 60; n++ {
			p.same(t, p.step(t, func() int {
				if len(steps) == 0 {
					return int(time % (1 << 20))
				}
				k := int(steps[0])
				steps = steps[1:]
				return k
			}))
		}
	})
}
