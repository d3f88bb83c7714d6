package man

import (
	"encoding/binary"
	"maps"
	"math"
	"math/rand/v2"
	"slices"
	"strconv"
	"strings"
	"testing"
	"unsafe"

	"clepsydra/api"
	"clepsydra/disk"
	"clepsydra/edit"
	"clepsydra/frame"
	"clepsydra/num"
)

// The second hand: names and Manifests by the words of 16.1 to 16.3.

// plainNumber goes digit by digit.
func plainNumber(name, kind string) (int, bool) {
	if kind != "log" && kind != "tab" && kind != "man" || len(name) < 5 || name[:3] != kind || name[3] != '.' || name[4] == '0' {
		return 0, false
	}
	n := 0
	for i := 4; i < len(name); i++ {
		if name[i] < '0' || name[i] > '9' || n > topNum {
			return 0, false
		}
		n = 10*n + int(name[i]-'0')
	}
	return n, n <= topNum
}

func plainName(kind string, n int) string {
	if n < 1 || n > topNum || !strings.Contains(" log tab man ", " "+kind+" ") || len(kind) != 3 {
		return ""
	}
	var digits []byte
	for ; n > 0; n /= 10 {
		digits = append([]byte{byte('0' + n%10)}, digits...)
	}
	return kind + "." + string(digits)
}

// model is a Manifest by another hand, on a Disk of its own.
type model struct {
	disk   *disk.Disk
	name   string
	count  int
	view   api.View
	broken bool
}

// next answers the N of Rewrite.
func (m *model) next() int {
	n := 1
	for _, name := range m.disk.List() {
		if k, ok := plainNumber(name, "man"); ok && n <= k {
			n = k + 1
		}
	}
	return n
}

// steps does the steps of Rewrite.
func (m *model) steps(n int) api.Errno {
	d, name := m.disk, plainName("man", n)
	steps := []func() api.Errno{
		func() api.Errno { return d.Create(name) },
		func() api.Errno { return d.Append(name, written(edit.Whole(m.view))) },
		func() api.Errno { return d.Sync(name) },
		func() api.Errno {
			if _, e := d.Read("current.tmp"); e == api.ErrNone {
				return api.OK
			}
			return d.Remove("current.tmp")
		},
		func() api.Errno { return d.Create("current.tmp") },
		func() api.Errno { return d.Append("current.tmp", currentOf(uint64(n))) },
		func() api.Errno { return d.Sync("current.tmp") },
		d.SyncDir,
		func() api.Errno { return d.Rename("current.tmp", "current") },
	}
	for _, step := range steps {
		if e := step(); e != api.OK {
			return e
		}
	}
	m.name, m.count = name, 1
	if e := d.SyncDir(); e != api.OK {
		m.broken = true
		return e
	}
	for _, other := range d.List() {
		if _, ok := plainNumber(other, "man"); ok && other != name {
			d.Remove(other)
		}
	}
	return api.OK
}

func (m *model) rewrite() api.Errno {
	if m.broken {
		return api.ErrReadOnly
	}
	return m.steps(m.next())
}

func (m *model) save(e api.Edit) api.Errno {
	if m.broken {
		return api.ErrReadOnly
	}
	v, ok := edit.Apply(m.view, e)
	b, err := edit.Put(nil, e)
	if !ok || err != api.OK {
		return api.ErrArg
	}
	if err := m.disk.Append(m.name, b); err != api.OK {
		return err
	}
	m.view, m.count = v, m.count+1
	err = m.disk.Sync(m.name)
	m.broken = err != api.OK
	return err
}

// open answers another model on the same Disk.
func (m *model) open() (*model, api.Errno) {
	c, e := m.disk.Read("current")
	if e != api.OK {
		return nil, e
	}
	o := &model{disk: m.disk}
	if len(c) > 8 {
		// The number stands behind the head. What is written otherwise is not current's.
		n, _ := binary.Uvarint(c[8:])
		if n <= topNum && string(c) == string(currentOf(n)) {
			o.name = plainName("man", int(n))
		}
	}
	b, e := m.disk.Read(o.name)
	if e != api.OK {
		return nil, api.ErrCorrupt
	}
	v, end, e := edit.Replay(b)
	if e != api.OK {
		return nil, api.ErrCorrupt
	}
	o.view = v
	for at := 0; at < end; o.count++ {
		_, _, at, _ = frame.Take(b, at)
	}
	if end < len(b) || o.count > 30 {
		if e := o.steps(o.next()); e != api.OK {
			return nil, e
		}
	}
	return o, api.OK
}

// pair is a Manifest and its model, to which the same is done.
type pair struct {
	m *Manifest
	d *disk.Disk
	o *model
}

func newPair(t *testing.T, quota int, v api.View) *pair {
	t.Helper()
	d := disk.New(quota)
	o := &model{disk: disk.New(quota), view: v}
	o.view.Files = slices.Clone(v.Files)
	m, e := made(t, d, v)
	want := api.ErrArg
	if edit.Ok(v) {
		want = o.steps(1)
	}
	expect(t, "New", e, want)
	return &pair{m, d, o}
}

// both does it to both disks.
func (p *pair) both(do func(d *disk.Disk)) {
	do(p.d)
	do(p.o.disk)
}

// same fails where one can tell both apart.
func (p *pair) same(t *testing.T, why string) {
	t.Helper()
	if got, want := kept(p.d), kept(p.o.disk); !maps.Equal(got, want) || p.d.Calls() != p.o.disk.Calls() || p.d.Dead() != p.o.disk.Dead() {
		t.Fatalf("%s: the files are %.300q, behind %d calls, not %.300q, behind %d", why, got, p.d.Calls(), want, p.o.disk.Calls())
	}
	if p.m == nil {
		return
	}
	if got := viewed(t, p.m); !edit.Same(got, p.o.view) || p.m.Name() != p.o.name || p.m.Count() != p.o.count || p.m.Broken() != p.o.broken {
		t.Fatalf("%s: %s, %d Edits, %v, %v, not %s, %d, %v, %v", why, p.m.Name(), p.m.Count(), got, p.m.Broken(), p.o.name, p.o.count, p.o.view, p.o.broken)
	}
}

func (p *pair) open(t *testing.T) {
	t.Helper()
	m, e := opened(t, p.d)
	o, want := p.o.open()
	expect(t, "Open", e, want)
	if e == api.OK {
		p.m, p.o = m, o
	}
}

// otherFile answers a file that stands beside those of the Manifest, or is one of
// them that another wrote.
func otherFile(next func() int) (string, []byte) {
	name := []string{"man.1", "man.2", "man.3", "man.9", "man.12", "man.01", "man.1073741823", "man.1073741824", "man.1073741825", "log.5", "tab.700", "current", "current.tmp", "x"}[next()%14]
	switch next() % 6 {
	case 0:
		return name, currentOf(uint64(next() % 4))
	case 1:
		return name, written(edit.Whole(view()))
	case 2:
		return name, written(edit.Whole(view()), api.Edit{Drop: []int{300}}, api.Edit{Lease: uint64(next())})
	case 3:
		return name, framed(1+next()%9, []byte{byte(next())})
	case 4:
		return name, slices.Concat(slices.Repeat(written(api.Edit{Log: 1 + next()%9}), next()%35), text(next()%5))
	}
	return name, text(next() % 20)
}

// step does what the next numbers say.
func (p *pair) step(t *testing.T, next func() int) {
	t.Helper()
	why := ""
	switch k := next() % 20; k {
	case 0, 1:
		n := next() % 14
		p.both(func(d *disk.Disk) { d.Fail(n) })
	case 2:
		n := next() % 14
		p.both(func(d *disk.Disk) { d.Stop(n) })
	case 3:
		name, b := otherFile(next)
		p.both(func(d *disk.Disk) { d.Create(name); d.Append(name, b); d.Sync(name) })
	case 4:
		name, _ := otherFile(next)
		p.both(func(d *disk.Disk) { d.Remove(name) })
	case 5:
		if p.m != nil {
			name, tail := p.o.name, text(next()%9)
			p.both(func(d *disk.Disk) { d.Append(name, tail) })
		}
	case 6, 7:
		why = "Open"
		p.open(t)
	case 8, 9, 10:
		why = "Crash"
		keep := []int{next(), next(), next(), next(), next()}[next()%5:]
		p.both(func(d *disk.Disk) { d.Crash(keep) })
		p.open(t)
	case 11, 12:
		if p.m != nil {
			why = "Rewrite"
			expect(t, why, p.m.Rewrite(), p.o.rewrite())
		}
	case 13:
		p.both(func(d *disk.Disk) { d.Stop(-1); d.Fail(0) })
	default:
		if p.m != nil {
			why = "Save"
			e := p.edit(next)
			expect(t, why, saved(t, p.m, e), p.o.save(e))
		}
	}
	p.same(t, why)
}

// edit answers one that may mostly be Applied.
func (p *pair) edit(next func() int) api.Edit {
	switch next() % 16 {
	case 0:
		l := refusedByPut()
		return l[next()%len(l)]
	case 1:
		l := refusedByApply(2, 4)
		return l[next()%len(l)]
	}
	return anyEdit(rand.New(rand.NewPCG(163, uint64(next()))), p.o.view)
}

// 16.2, 16.3, 16.5

func TestManifestsAgainstTheModel(t *testing.T) {
	opened := 0
	for seed := range uint64(3000) {
		r := rand.New(rand.NewPCG(162, seed))
		p := newPair(t, []int{0, 30, 45, 80, 120, 300, 1000, 100000, 100000, 100000}[r.IntN(10)], views()[r.IntN(5)])
		p.same(t, "New")
		for range 40 {
			p.step(t, func() int { return r.IntN(1 << 20) })
		}
		if p.m != nil {
			opened++
		}
	}
	if opened < 2000 {
		t.Errorf("only %d Manifests", opened)
	}
}

func TestNamesAgainstTheSecondHand(t *testing.T) {
	parts := []string{"log", "tab", "man", "", ".", ".", "1", "0", "10", "73", "1073741824", "1073741825", "+", "-", " ", "x", "999999999", "\x00", "\u0661"}
	for seed := range uint64(100000) {
		r := rand.New(rand.NewPCG(161, seed))
		name := ""
		for range r.IntN(5) {
			name += parts[r.IntN(len(parts))]
		}
		if r.IntN(2) == 0 {
			name = parts[r.IntN(3)] + "." + name
		}
		namedAs(t, name, parts[r.IntN(5)], int(r.Int64N(3*topNum)-topNum))
	}
}

// namedAs fails where Name or Number is not as the second hand.
func namedAs(t *testing.T, name, kind string, n int) {
	t.Helper()
	names(t, kind, n, plainName(kind, n))
	for _, text := range []string{name, kind, kind + "." + name, kind + "." + strconv.Itoa(n), Name(kind, n)} {
		for _, kind := range append(kinds(), kind, name) {
			want, ok := plainNumber(text, kind)
			if !ok {
				want = 0
			}
			numbers(t, text, kind, want, ok)
		}
	}
}

func TestNamesAreNotLent(t *testing.T) {
	m, _ := started(t, 1000)
	for _, name := range []func() string{m.Name, func() string { return Name("log", 7) }} {
		if a, b := name(), name(); a != b || unsafe.StringData(a) == unsafe.StringData(b) {
			t.Error("one memory, told twice")
		}
	}
	buf := []byte("log")
	name := Name(unsafe.String(&buf[0], 3), 7)
	copy(buf, "tab")
	if name != "log.7" {
		t.Errorf("what was handed in is kept: %q", name)
	}
}

// 16.5, W9: any bytes as current and as the man file.
func FuzzNoCallPanics(f *testing.F) {
	b := written(edit.Whole(view()), api.Edit{Floor: 99})
	f.Add(currentOf(1), b, "log.1", "log", 1, 2, 3, uint64(4), []byte{0, 3, 14, 5, 11, 8, 1, 1, 1, 1, 1, 3})
	f.Add(currentOf(2), b[:40], "man", "man.2", topNum, topNum+1, -1, uint64(topVersion+1), []byte{1, 9, 11, 14, 7, 8, 0, 0, 0, 0, 0, 0})
	f.Add([]byte(nil), []byte(nil), "", "", math.MinInt, math.MaxInt, 4, uint64(math.MaxUint64), []byte{2, 5, 12, 6, 8, 9, 9, 9, 9, 9, 9})
	f.Add(framed(8, num.Put(nil, math.MaxUint64)), slices.Repeat(written(api.Edit{Log: 1}), 31), "tab.007", "tab", 41, 0, 0, uint64(0), []byte{6, 14, 2, 7})
	for seed := range uint64(60) {
		r := rand.New(rand.NewPCG(165, seed))
		script := make([]byte, r.IntN(60))
		for i := range script {
			script[i] = byte(r.IntN(256))
		}
		f.Add(currentOf(r.Uint64N(3)), b[:r.IntN(len(b)+1)], "man.1", "man", r.IntN(5), r.IntN(50), r.IntN(5)-1, r.Uint64N(99), script)
	}
	f.Fuzz(func(t *testing.T, current, bytes []byte, name, kind string, log, many, level int, x uint64, steps []byte) {
		namedAs(t, name, kind, log)
		many = max(0, min(many, 100))
		v := api.View{Log: log, Files: append(files(many), file(level, log)), Floor: x, Cert: x / 2, At: x / 3, Lease: x * 5}
		newPair(t, 100000, v).same(t, "New")
		p := newPair(t, 100000, view())
		p.both(func(d *disk.Disk) {
			d.Remove("current")
			d.Create("current")
			d.Append("current", current)
			d.Create("man.2")
			d.Append("man.2", bytes)
		})
		p.open(t)
		p.same(t, "any bytes")
		for _, e := range []api.Edit{{Log: log}, {Drop: nums(many)}, {Add: v.Files}, {Drop: []int{log}, Add: row(file(level, log))}, {Floor: x, Lease: x / 2}, edit.Whole(v)} {
			expect(t, "Save", saved(t, p.m, e), p.o.save(e))
			p.same(t, "Save")
		}
		for n := 0; len(steps) > 0 && n < 40; n++ {
			p.step(t, func() int {
				if len(steps) == 0 {
					return int(x % (1 << 20))
				}
				k := int(steps[0])
				steps = steps[1:]
				return k
			})
		}
	})
}
