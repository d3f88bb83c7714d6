package log

import (
	"math"
	"math/rand/v2"
	"slices"
	"testing"

	"clepsydra/api"
	"clepsydra/disk"
)

// model is a Log by another hand, on a Disk of its own.
type model struct {
	disk    *disk.Disk
	batches [][]api.Item
	torn    bool
}

func (m *model) put(l []api.Item) api.Errno {
	e := refusal(l)
	if m.torn {
		e = api.ErrCorrupt
	}
	if e == api.OK {
		e = m.disk.Append("log.1", batch(l...))
	}
	if e == api.OK {
		m.batches = append(m.batches, slices.Clone(l))
	}
	return e
}

func (m *model) sync() api.Errno {
	if m.torn {
		return api.ErrCorrupt
	}
	return m.disk.Sync("log.1")
}

func (m *model) open() (whole bool, e api.Errno) {
	b, e := m.disk.Read("log.1")
	if e != api.OK {
		return false, e
	}
	l, end, e := plainReplay(b)
	if e != api.OK {
		return false, e
	}
	m.batches, m.torn = l, end < len(b)
	return !m.torn, api.OK
}

// pair is a Log and its model, to which the same is done.
type pair struct {
	g *Log
	d *disk.Disk
	m *model
}

func newPair(t *testing.T, quota int) *pair {
	t.Helper()
	g, d := started(t, quota)
	return &pair{g: g, d: d, m: &model{disk: d.Copy()}}
}

// both does it to both disks.
func (p *pair) both(do func(d *disk.Disk)) {
	do(p.d)
	do(p.m.disk)
}

func (p *pair) open(t *testing.T) {
	t.Helper()
	g, l, whole, e := opened(t, p.d, "log.1")
	wantWhole, want := p.m.open()
	if e != want || whole != wantWhole || e == api.OK && !sameBatches(l, p.m.batches) {
		t.Fatalf("Open is %.3v, %v, %v, not %.3v, %v, %v", l, whole, e, p.m.batches, wantWhole, want)
	}
	if e == api.OK {
		p.g = g
	}
}

// same fails where one can tell both apart.
func (p *pair) same(t *testing.T) {
	t.Helper()
	sized(t, "as the model", p.g, len(written(p.m.batches...)), len(p.m.batches))
	if fileOf(p.d, "log.1") != fileOf(p.m.disk, "log.1") || p.d.Calls() != p.m.disk.Calls() || p.d.Dead() != p.m.disk.Dead() {
		t.Fatalf("the file is %.40x, not %.40x", fileOf(p.d, "log.1"), fileOf(p.m.disk, "log.1"))
	}
}

func (p *pair) put(t *testing.T, l []api.Item) {
	t.Helper()
	if got, want := put(t, p.g, l), p.m.put(l); got != want {
		t.Fatalf("Put of %d, %.3v, is %v, not %v", len(l), l, got, want)
	}
}

// step does what the next numbers say.
func (p *pair) step(t *testing.T, next func() int) {
	t.Helper()
	switch next() % 14 {
	case 0, 1, 2, 3:
		p.put(t, row(next()%5))
	case 4:
		p.put(t, list(tomb(1, 1), bad()[next()%len(bad())]))
	case 5:
		p.put(t, widest(next()%2100))
	case 6, 7:
		if got, want := p.g.Sync(), p.m.sync(); got != want {
			t.Fatalf("Sync is %v, not %v", got, want)
		}
	case 8:
		n := next() % 4
		p.both(func(d *disk.Disk) { d.Fail(n) })
	case 9:
		n := next() % 6
		p.both(func(d *disk.Disk) { d.Stop(n) })
	case 10:
		tail := [][]byte{text(next() % 8), head(1, next()%60001), text(20)}[next()%3]
		p.both(func(d *disk.Disk) { d.Append("log.1", tail) })
		p.open(t)
	case 11:
		p.open(t)
	case 12, 13:
		keep := []int{next(), next()}
		p.both(func(d *disk.Disk) { d.Crash(keep) })
		p.open(t)
	}
	p.same(t)
}

// 14.1, 14.3

func TestLogsAgainstTheModel(t *testing.T) {
	for seed := range uint64(500) {
		r := rand.New(rand.NewPCG(14, seed))
		p := newPair(t, []int{0, 100, 1000, 60000, 1 << 20}[r.IntN(5)])
		for range 40 {
			p.step(t, func() int { return r.IntN(1 << 20) })
		}
	}
}

// replaysAs fails where Replay does not tell what the second hand does, or where
// what it tells is not what Batch writes.
func replaysAs(t *testing.T, b []byte) {
	t.Helper()
	l, end, e := replayed(t, b)
	want, wantEnd, wantE := plainReplay(b)
	if !sameBatches(l, want) || end != wantEnd || e != wantE {
		t.Fatalf("Replay of %x is %v, %d, %v, not %v, %d, %v", b, l, end, e, want, wantEnd, wantE)
	}
	var again []byte
	for _, items := range l {
		one, e := batched(t, items)
		done(t, e)
		again = append(again, one...)
	}
	if string(again) != string(b[:end]) {
		t.Fatalf("Replay of %x has batches of the bytes %x", b, again)
	}
}

// anyBytes answers frames, most of them whole batches, some of them spoiled.
func anyBytes(r *rand.Rand) []byte {
	var b []byte
	for range r.IntN(6) {
		switch r.IntN(12) {
		case 0:
			body := coded(row(1 + r.IntN(4))...)
			turn(body, r.IntN(8*len(body)))
			b = append(b, framed(1, body)...)
		case 1:
			b = append(b, framed(1, text(r.IntN(12)))...)
		case 2:
			b = append(b, framed(r.IntN(102), coded(row(1+r.IntN(4))...))...)
		default:
			b = append(b, batch(row(1+r.IntN(4))...)...)
		}
	}
	switch r.IntN(6) {
	case 0:
		b = append(b, text(r.IntN(8))...)
	case 1:
		b = append(b, head(r.IntN(102), r.IntN(60010))...)
	case 2:
		b = b[:r.IntN(len(b)+1)]
	case 3:
		if len(b) > 0 {
			turn(b, r.IntN(8*len(b)))
		}
	}
	return b
}

func TestReplayAgainstTheSecondHand(t *testing.T) {
	for seed := range uint64(3000) {
		replaysAs(t, anyBytes(rand.New(rand.NewPCG(143, seed))))
	}
}

// All bodies of two bytes in a frame of kind 1, and those of one item with each
// byte changed to each other one.
func TestShortBodies(t *testing.T) {
	for n := range 1 << 16 {
		replaysAs(t, framed(1, []byte{byte(n), byte(n >> 8)}))
	}
	for _, x := range list(tomb(3, 5), sample(3, 300, 70000, -300)) {
		body := coded(x)
		for at := range body {
			for c := range 256 {
				other := slices.Clone(body)
				other[at] = byte(c)
				replaysAs(t, framed(1, other))
				replaysAs(t, join(batch(x), framed(1, other), batch(x)))
			}
		}
	}
}

func FuzzNoCallPanics(f *testing.F) {
	f.Add([]byte(nil), "", 0, uint64(0), int64(0), []byte(nil))
	f.Add(batch(row(2)...), "log.1", 2, uint64(5), int64(-1), []byte{0, 1, 6, 12, 3, 0, 0, 2})
	f.Add(join(batch(row(2)...), head(1, 60000)), "A", 1, uint64(1<<48), int64(0), []byte{5, 255, 9, 2, 0, 1, 0, 2, 12, 7, 7})
	f.Add(framed(2, coded(tomb(1, 1))), "a", -1, uint64(math.MaxUint64), int64(math.MinInt64), []byte{10, 3, 0, 1, 6, 11, 8, 1, 0, 1})
	for seed := range uint64(50) {
		r := rand.New(rand.NewPCG(144, seed))
		script := make([]byte, r.IntN(30))
		for i := range script {
			script[i] = byte(r.IntN(256))
		}
		f.Add(anyBytes(r), "log.1", r.IntN(4), r.Uint64N(9), r.Int64N(3)-1, script)
	}
	f.Fuzz(func(t *testing.T, b []byte, name string, kind int, version uint64, value int64, steps []byte) {
		replaysAs(t, b)
		replaysAs(t, framed(1, b[:min(len(b), 60000)]))
		x := api.Item{Series: kind, Kind: kind, Version: version, Value: value}
		if _, e := batched(t, list(x)); e != refusal(list(x)) {
			t.Fatalf("Batch of %v is %v", x, e)
		}
		New(disk.New(kind), name)
		opened(t, disk.New(kind), name)
		p := newPair(t, 100000)
		p.both(func(d *disk.Disk) { d.Append("log.1", b) })
		p.open(t)
		for n := 0; len(steps) > 0 && n < 30; n++ {
			p.put(t, list(x))
			p.step(t, func() int {
				if len(steps) == 0 {
					return int(version % (1 << 20))
				}
				k := int(steps[0])
				steps = steps[1:]
				return k
			})
		}
	})
}
