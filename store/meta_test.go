package store

import (
	"math"
	"math/rand/v2"
	"testing"

	"clepsydra/api"
	"clepsydra/edit"
)

// 18.1: Meta, SetMeta

// numbersOf answers where the four numbers of m stand.
func numbersOf(m *api.Meta) []*uint64 { return []*uint64{&m.Floor, &m.Cert, &m.At, &m.Lease} }

func TestMeta(t *testing.T) {
	s, d := started(t)
	done(t, applied(t, s, row(smp(1, 1, 1, 1))), s.Sync())
	if s.Meta() != (api.Meta{}) {
		t.Errorf("at first Meta is %v", s.Meta())
	}
	edits := []api.Edit{{Log: 1}}
	for _, m := range []api.Meta{
		{}, {Floor: 9}, {Floor: 9}, {Floor: 9, At: 3}, {Floor: 8, At: 1, Lease: topVersion},
		{Floor: topVersion, Cert: topVersion, At: topVersion, Lease: topVersion},
		{Floor: 1, Cert: 2, At: 3, Lease: 4}, {Floor: 5, Cert: 6, At: 7, Lease: topVersion - 1},
	} {
		calls := d.Calls()
		done(t, s.SetMeta(m))
		if s.Meta() != m || d.Calls() != calls+2 {
			t.Fatalf("SetMeta of %v takes %d calls, and Meta is %v", m, d.Calls()-calls, s.Meta())
		}
		edits = append(edits, api.Edit{Floor: m.Floor, Cert: m.Cert, At: m.At, Lease: m.Lease})
		if b, _ := d.Read("man.1"); string(b) != string(written(edits...)) {
			t.Fatalf("SetMeta of %v: the manifest has %x", m, b)
		}
		v := api.View{Log: 1, Floor: m.Floor, Cert: m.Cert, At: m.At, Lease: m.Lease}
		if !edit.Same(viewed(t, s), v) {
			t.Fatalf("View is %v, not %v", s.View(), v)
		}
		stands(t, "a Meta", s, api.Stats{Items: 1, Buffered: 1, Batches: 1}, "")
		lasts(t, "a Meta", d, row(smp(1, 1, 1, 1)), m)
	}
}

func TestSetMetaOfWhatIsRefused(t *testing.T) {
	s, d := started(t)
	good := api.Meta{Floor: 9, Cert: topVersion, At: 1, Lease: 7}
	for at := range 4 {
		// None is 0 yet that may not be.
		for _, n := range []uint64{topVersion + 1, math.MaxUint64, 1 << 63} {
			m := good
			*numbersOf(&m)[at] = n
			metaRefused(t, s, m)
			metaRefused(t, s, api.Meta{}, at, n)
		}
	}
	done(t, s.SetMeta(good))
	for at := range 4 {
		for _, n := range []uint64{0, topVersion + 1, math.MaxUint64, 1 << 63} {
			m := good
			*numbersOf(&m)[at] = n
			metaRefused(t, s, m)
		}
	}
	metaRefused(t, s, api.Meta{})
	d.Stop(0)
	metaRefused(t, s, api.Meta{})
	expect(t, "dead", s.SetMeta(good), api.ErrDead)
	d.Crash(nil)
	lasts(t, "behind it", d, nil, good)
}

// metaRefused fails where SetMeta of m, with another number in one place, does not
// tell ErrArg, or does anything.
func metaRefused(t *testing.T, s *Store, m api.Meta, change ...any) {
	t.Helper()
	if len(change) == 2 {
		*numbersOf(&m)[change[0].(int)] = change[1].(uint64)
	}
	was, same := answers(t, s), untouched(s.disk)
	expect(t, "SetMeta", s.SetMeta(m), api.ErrArg)
	if answers(t, s) != was || !same() {
		t.Fatalf("SetMeta of %v changes something", m)
	}
}

// A number that is 0 may stay so, whatever the others are.
func TestSetMetaOfEachChoice(t *testing.T) {
	for was := range 16 {
		for now := range 16 {
			s, d := started(t)
			var a, b api.Meta
			for at := range 4 {
				*numbersOf(&a)[at] = uint64(was >> at & 1 * (at + 5))
				*numbersOf(&b)[at] = uint64(now >> at & 1 * (at + 3))
			}
			done(t, s.SetMeta(a))
			want, e := a, api.ErrArg
			if was&^now == 0 {
				want, e = b, api.OK
			}
			expect(t, "SetMeta", s.SetMeta(b), e)
			if s.Meta() != want {
				t.Fatalf("%v, then %v: Meta is %v", a, b, s.Meta())
			}
			if s := opens(t, "anew", d); s.Meta() != want {
				t.Fatalf("%v, then %v: anew Meta is %v", a, b, s.Meta())
			}
		}
	}
}

// Flushes, Steps and Purges leave the numbers as they are.
func TestMetaStays(t *testing.T) {
	r := rand.New(rand.NewPCG(182, 1))
	s, d := started(t)
	m := api.Meta{}
	for n := range uint64(60) {
		if n%7 == 3 {
			m = api.Meta{Floor: n, Cert: n / 2, At: n * 2, Lease: topVersion - n}
			done(t, s.SetMeta(m))
		}
		done(t, applied(t, s, anyBatch(r, 9)))
		if e := s.Flush(); n%3 == 0 {
			done(t, e)
		}
		if n%5 == 0 {
			done(t, s.Purge(n))
		}
		_, e := s.Step()
		done(t, e)
		if s.Meta() != m {
			t.Fatalf("Meta is %v, not %v", s.Meta(), m)
		}
		if n%20 == 19 {
			d.Crash(nil)
			s = opens(t, "anew", d)
		}
	}
}

func TestSetMetaWhoseAppendFails(t *testing.T) {
	s, d := started(t)
	done(t, s.SetMeta(api.Meta{Floor: 1}))
	was := answers(t, s)
	for range 2 {
		d.Fail(1)
		calls := d.Calls()
		expect(t, "Append", s.SetMeta(api.Meta{Floor: 5}), api.ErrFull)
		if answers(t, s) != was || d.Calls() != calls+1 {
			t.Error("an Append that fails changes something")
		}
	}
	lasts(t, "Append", d, nil, api.Meta{Floor: 1})
	done(t, s.SetMeta(api.Meta{Floor: 6}))
	lasts(t, "behind it", d, nil, api.Meta{Floor: 6})
}
