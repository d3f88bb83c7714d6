package store

import (
	"fmt"
	"math"
	"testing"

	"clepsydra/api"
	"clepsydra/disk"
)

// 18.6: what another wrote, with more in it than a Store ever writes

// pairBy answers a pair on Disks as d.
func pairBy(t *testing.T, d *disk.Disk) *pair {
	t.Helper()
	p := &pair{d: d, o: &model{disk: d.Copy()}}
	p.open(t)
	p.same(t, "by another")
	return p
}

// each asks each call of both, so many times.
func (p *pair) each(t *testing.T, times int) {
	t.Helper()
	for n := range times {
		for _, l := range [][]api.Item{nil, row(smp(250, uint64(n), 1, 1)), {{}}, many(250, 0, 1001, 1), row(tomb(250, 5), tomb(0, 9)), many(251, 0, 1000, 1)} {
			why := fmt.Sprintf("Apply of %.80v", l)
			expect(t, why, p.s.Apply(l), p.o.apply(l))
			p.same(t, why)
		}
		expect(t, "Flush", p.s.Flush(), p.o.flush())
		p.same(t, "Flush")
		for _, v := range []uint64{0, 9, math.MaxUint64} {
			expect(t, "Purge", p.s.Purge(v), p.o.purge(v))
			p.same(t, "Purge")
		}
		did, e := p.s.Step()
		want, wantE := p.o.step()
		if expect(t, "Step", e, wantE); did != want {
			t.Fatalf("Step is %v, not %v", did, want)
		}
		p.same(t, "Step")
		expect(t, "SetMeta", p.s.SetMeta(api.Meta{Floor: 1}), p.o.setMeta(api.Meta{Floor: 1}))
		p.same(t, "SetMeta")
	}
	p.open(t)
	p.same(t, "Open")
}

// A State that is longer than it may be: what makes it no longer than that is taken.
func TestAStateThatIsTooLong(t *testing.T) {
	v := api.View{Log: 9, Files: []api.File{file(0, 1), file(3, 2)}}
	tables := map[int][]api.Item{1: many(1, 0, 2000, 5), 2: many(2, 0, 300, 5)}
	d := by(t, v, tables, many(3, 0, 1999, 7), row(tomb(3, 6), smp(4, 0, 5, 1)))
	s := opens(t, "too long", d)
	stands(t, "too long", s, api.Stats{Items: 4301, Buffered: 2001, Files: 2, Batches: 2}, "1@0 2@3")
	for range 2 {
		refuses(t, "none", s, d, nil, api.ErrArg)
		refuses(t, "what is hidden", s, d, row(smp(3, 0, 6, 1)), api.ErrLong)
		refuses(t, "a delete", s, d, row(tomb(3, 9)), api.ErrLong)
		refuses(t, "a sample", s, d, row(smp(5, 0, 1, 1)), api.ErrLong)
	}
	want := plain(tables[2], row(smp(4, 0, 5, 1), tomb(1, 5), tomb(3, 9)))
	done(t, applied(t, s, row(tomb(1, 5), tomb(3, 9))))
	has(t, "short again", s, want)
	done(t, s.Purge(9))
	has(t, "short again", s, purged(want, 9))
	lasts(t, "short again", d, purged(want, 9), api.Meta{})
	// More than a table has: the Flush is refused, and nothing is changed.
	d = by(t, v, tables, many(3, 0, 1999, 7), many(4, 0, 2, 7))
	s = opens(t, "too long for a table", d)
	was, same := answers(t, s), untouched(d)
	expect(t, "too long for a table", s.Flush(), api.ErrLong)
	expect(t, "too long for a table", s.Purge(9), api.ErrLong)
	if answers(t, s) != was || !same() {
		t.Error("a Flush that is refused does something")
	}
	// What Purge and Step make of it is more than may be.
	v, tables = api.View{Log: 90}, map[int][]api.Item{}
	for n := 1; n <= 29; n++ {
		v.Files = append(v.Files, file(n%4, n))
		tables[n] = many(n, 0, 600, 5)
	}
	pairBy(t, by(t, v, tables)).each(t, 2)
	pairBy(t, by(t, v, tables, row(tomb(9, 9)))).each(t, 2)
}

func TestStoresOfAnother(t *testing.T) {
	forty := api.View{Log: topNum - 1}
	tables := map[int][]api.Item{}
	for n := range 40 {
		forty.Files = append(forty.Files, file(n%4, topNum-2-n))
		tables[topNum-2-n] = append(row(tomb(n%3, uint64(n+1))), many(n%3, n, 30, uint64(n%7+30))...)
	}
	few := api.View{Log: 3, Files: []api.File{file(3, 9), file(3, 8), file(0, 700), file(0, 4), file(0, 6), file(0, 5)}}
	empty := map[int][]api.Item{9: nil, 8: nil, 700: nil, 4: nil, 6: nil, 5: nil}
	levels := api.View{Log: 3, Files: []api.File{file(1, 9), file(2, 8), file(1, 7), file(2, 6)}}
	long := map[int][]api.Item{9: many(1, 0, 150, 1), 8: many(1, 100, 2000, 1), 7: many(0, 0, 900, 1), 6: row(tomb(0, 3))}
	for _, d := range []*disk.Disk{
		by(t, forty, tables),
		by(t, forty, tables, row(smp(9, 9, 9, 9))),
		by(t, few, empty),
		by(t, few, empty, many(7, 0, 1500, 1)),
		by(t, levels, long),
		by(t, levels, long, row(tomb(1, 9)), row(tomb(0, 4))),
		by(t, api.View{Log: topNum}, nil),
		by(t, api.View{Log: topNum}, nil, row(tomb(0, 4))),
		by(t, api.View{Log: 1, Floor: 5, Cert: 6, At: 7, Lease: topVersion}, nil, row(tomb(0, 4))),
	} {
		pairBy(t, d).each(t, 2)
	}
}
