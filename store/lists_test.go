package store

import (
	"cmp"
	"fmt"
	"maps"
	"math"
	"slices"
	"strings"
	"testing"

	"clepsydra/api"
	"clepsydra/disk"
	"clepsydra/edit"
	"clepsydra/frame"
	"clepsydra/log"
	"clepsydra/man"
	"clepsydra/num"
	"clepsydra/table"
)

const (
	topNum     = 1 << 30
	topVersion = 1 << 48
	topTime    = 1 << 40
	// plenty is a quota that no test needs.
	plenty = 1 << 22
)

func smp(series int, time, version uint64, value int64) api.Item {
	return api.Item{Series: series, Kind: api.ISample, Time: time, Version: version, Value: value}
}

func tomb(series int, version uint64) api.Item {
	return api.Item{Series: series, Kind: api.ITomb, Version: version}
}

func row(l ...api.Item) []api.Item { return l }

// many answers n samples of a series, with the times from first on.
func many(series, first, n int, version uint64) []api.Item {
	l := make([]api.Item, n)
	for i := range l {
		l[i] = smp(series, uint64(first+i), version, int64(i))
	}
	return l
}

// wrongItems answers items that are not item.Ok.
func wrongItems() []api.Item {
	good := smp(3, 7, 9, 5)
	l := []api.Item{{}, tomb(0, 0), tomb(0, topVersion+1), {Kind: 3, Version: 1}, {Kind: -1, Version: 1}, {Kind: api.ITomb, Version: 1, Time: 1}, {Kind: api.ITomb, Version: 1, Value: -1}}
	for _, change := range []func(x *api.Item){
		func(x *api.Item) { x.Series = -1 },
		func(x *api.Item) { x.Series = 256 },
		func(x *api.Item) { x.Series = math.MinInt },
		func(x *api.Item) { x.Time = topTime + 1 },
		func(x *api.Item) { x.Time = math.MaxUint64 },
		func(x *api.Item) { x.Version = 0 },
		func(x *api.Item) { x.Version = topVersion + 1 },
		func(x *api.Item) { x.Kind = 0 },
	} {
		x := good
		change(&x)
		l = append(l, x)
	}
	return l
}

// place is where an item stands.
type place struct {
	series, kind int
	time         uint64
}

func placeOf(x api.Item) place { return place{x.Series, x.Kind, x.Time} }

func byPlace(a, b api.Item) int {
	return cmp.Or(cmp.Compare(a.Series, b.Series), cmp.Compare(a.Kind, b.Kind), cmp.Compare(a.Time, b.Time))
}

// best answers of all items that stand at one place the one that wins, in order.
func best(l []api.Item) []api.Item {
	at := map[place]api.Item{}
	for _, x := range l {
		y, ok := at[placeOf(x)]
		if !ok || cmp.Or(cmp.Compare(x.Version, y.Version), cmp.Compare(x.Value, y.Value)) > 0 {
			at[placeOf(x)] = x
		}
	}
	return slices.SortedFunc(maps.Values(at), byPlace)
}

// plain answers the state of l by the words of 6.1.
func plain(l ...[]api.Item) []api.Item {
	all := best(slices.Concat(l...))
	gone := map[int]uint64{}
	for _, x := range all {
		if x.Kind == api.ITomb {
			gone[x.Series] = x.Version
		}
	}
	return slices.DeleteFunc(all, func(x api.Item) bool {
		return x.Kind == api.ISample && x.Version <= gone[x.Series]
	})
}

// purged answers l without its deletes of versions up to v.
func purged(l []api.Item, v uint64) []api.Item {
	return slices.DeleteFunc(slices.Clone(l), func(x api.Item) bool { return x.Kind == api.ITomb && x.Version <= v })
}

func done(t *testing.T, l ...api.Errno) {
	t.Helper()
	for i, e := range l {
		if e != api.OK {
			t.Fatalf("call %d is %v", i, e)
		}
	}
}

func expect(t *testing.T, why string, got, want api.Errno) {
	t.Helper()
	if got != want {
		t.Fatalf("%s: %v, not %v", why, got, want)
	}
}

// Disks.

// put makes a file of these bytes, in the place of one that is there.
func put(t *testing.T, d *disk.Disk, name string, b []byte) {
	t.Helper()
	if slices.Contains(d.List(), name) {
		done(t, d.Remove(name))
	}
	done(t, d.Create(name), d.Append(name, b), d.Sync(name))
}

// kept answers the files of a Disk. Of a dead one there are none.
func kept(d *disk.Disk) map[string]string {
	l := map[string]string{}
	for _, name := range d.List() {
		b, _ := d.Read(name)
		l[name] = string(b)
	}
	return l
}

// names fails where d has files of other names than these, parted by blanks.
func names(t *testing.T, why string, d *disk.Disk, want string) {
	t.Helper()
	if got := strings.Join(d.List(), " "); got != want {
		t.Fatalf("%s: the files are %s, not %s", why, got, want)
	}
}

// untouched answers a look at whether d is as it is now, and was not called.
func untouched(d *disk.Disk) func() bool {
	calls, was := d.Calls(), kept(d)
	return func() bool { return d.Calls() == calls && maps.Equal(kept(d), was) }
}

// currentOf answers the bytes of current that 16.1 tells.
func currentOf(n uint64) []byte {
	b, _ := frame.Put(nil, 8, num.Put(nil, n))
	return b
}

// written answers the bytes of these Edits.
func written(l ...api.Edit) []byte {
	var b []byte
	for _, e := range l {
		b, _ = edit.Put(b, e)
	}
	return b
}

// batchesOf answers the bytes of a log.
func batchesOf(l ...[]api.Item) []byte {
	var b []byte
	for _, batch := range l {
		one, _ := log.Batch(batch)
		b = append(b, one...)
	}
	return b
}

func tableOf(l []api.Item) []byte {
	b, _ := table.Make(l)
	return b
}

// by answers a Disk that another wrote: the manifest of v, the tables of these
// items, by number, and a log of these batches. All of it lasts.
func by(t *testing.T, v api.View, tables map[int][]api.Item, batches ...[]api.Item) *disk.Disk {
	t.Helper()
	d := disk.New(plenty)
	for _, n := range slices.Sorted(maps.Keys(tables)) {
		put(t, d, man.Name("tab", n), tableOf(tables[n]))
	}
	put(t, d, man.Name("log", v.Log), batchesOf(batches...))
	put(t, d, "man.1", written(edit.Whole(v)))
	put(t, d, "current", currentOf(1))
	done(t, d.SyncDir())
	return d
}

func turn(b []byte, bit int) { b[bit/8] ^= 1 << (bit % 8) }

// losses answers lists for Crash: one by which all is kept, and some by which the
// bytes of so many files, and all changes of names, are lost.
func losses() [][]int {
	ones := slices.Repeat([]int{1}, 100)
	return [][]int{nil, slices.Repeat([]int{0}, 100), append([]int{0}, ones...), append([]int{0, 0}, ones...), append([]int{0, 0, 0}, ones...)}
}

// Stores.

// spoil changes all of l, its spare room too.
func spoil[T any](l []T, by T) {
	for i := range l[:cap(l)] {
		l[:cap(l)][i] = by
	}
}

func junk() api.Item { return api.Item{Series: 77, Kind: 2, Time: 77, Version: 77, Value: 77} }

// opened asks Open, and fails where it tells more than an error.
func opened(t *testing.T, d *disk.Disk) (*Store, api.Errno) {
	t.Helper()
	s, e := Open(d)
	if (e == api.OK) != (s != nil) {
		t.Fatalf("Open is %v beside %v", s, e)
	}
	return s, e
}

func opens(t *testing.T, why string, d *disk.Disk) *Store {
	t.Helper()
	s, e := opened(t, d)
	expect(t, why+", Open", e, api.OK)
	return s
}

// started answers a new Store, and its Disk.
func started(t *testing.T) (*Store, *disk.Disk) {
	t.Helper()
	d := disk.New(plenty)
	return opens(t, "a new one", d), d
}

// applied asks Apply, and fails where it changes what it is given. It spoils that,
// so that a Store that keeps it tells something else.
func applied(t *testing.T, s *Store, l []api.Item) api.Errno {
	t.Helper()
	all := append(slices.Clone(l), slices.Repeat([]api.Item{junk()}, 20)...)
	was := slices.Clone(all)
	e := s.Apply(all[:len(l)])
	if !slices.Equal(all, was) {
		t.Fatalf("Apply of %.200v changes what it is given", l)
	}
	spoil(all, api.Item{Series: -9})
	return e
}

// rowed answers what ask answers, and fails where that is lent.
func rowed(t *testing.T, why string, ask func() []api.Item) []api.Item {
	t.Helper()
	got := ask()
	l := slices.Clone(got)
	spoil(got, junk())
	if again := ask(); !slices.Equal(again, l) {
		t.Fatalf("%s is %.200v, then %.200v", why, l, again)
	}
	return l
}

func stated(t *testing.T, s *Store) []api.Item {
	t.Helper()
	return rowed(t, "State", s.State)
}

func viewed(t *testing.T, s *Store) api.View {
	t.Helper()
	v := s.View()
	was := v
	was.Files = slices.Clone(v.Files)
	spoil(v.Files, api.File{Level: -7, Num: -7})
	if again := s.View(); !edit.Same(again, was) {
		t.Fatalf("View is %v, then %v", was, again)
	}
	return was
}

// answers tells all that s answers, as a text, and fails where its answers do not
// fit each other.
func answers(t *testing.T, s *Store) string {
	t.Helper()
	l := fits(t, s)
	asked(t, s, l)
	return fmt.Sprint(l, s.View(), s.Stats())
}

// fits fails where State, View, Meta and Stats of s do not fit each other, and
// answers its State.
func fits(t *testing.T, s *Store) []api.Item {
	t.Helper()
	l, v, m, n := stated(t, s), viewed(t, s), s.Meta(), s.Stats()
	if n.Items != len(l) || n.Files != len(v.Files) || m != (api.Meta{Floor: v.Floor, Cert: v.Cert, At: v.At, Lease: v.Lease}) {
		t.Fatalf("%v, %v and %v of %d items", v, m, n, len(l))
	}
	return l
}

// asked fails where Series, Get or Scan tell other than l has, the State.
func asked(t *testing.T, s *Store, l []api.Item) {
	t.Helper()
	series := []int{-1, 0, 3, 255, 256, math.MaxInt}
	for i := 0; i < len(l); i += 1 + len(l)/8 {
		series = append(series, l[i].Series)
		got, ok := s.Get(l[i].Series, l[i].Time)
		if isSample := l[i].Kind == api.ISample; isSample && (!ok || got != l[i]) {
			t.Fatalf("Get of %v is %v, %v", l[i], got, ok)
		}
		scans(t, s, l, l[i].Series, l[i].Time, l[i].Time+2)
		gets(t, s, l, l[i].Series, l[i].Time+1)
	}
	slices.Sort(series)
	for _, n := range slices.Compact(series) {
		want := slices.DeleteFunc(slices.Clone(l), func(x api.Item) bool { return x.Series != n })
		if got := rowed(t, "Series", func() []api.Item { return s.Series(n) }); !slices.Equal(got, want) {
			t.Fatalf("Series of %d is %.200v, not %.200v", n, got, want)
		}
		scans(t, s, l, n, 0, math.MaxUint64)
		scans(t, s, l, n, 3, 2)
		gets(t, s, l, n, 0)
		gets(t, s, l, n, math.MaxUint64)
	}
}

func scans(t *testing.T, s *Store, l []api.Item, series int, lo, hi uint64) {
	t.Helper()
	want := slices.DeleteFunc(slices.Clone(l), func(x api.Item) bool {
		return x.Series != series || x.Kind != api.ISample || x.Time < lo || x.Time > hi
	})
	if got := rowed(t, "Scan", func() []api.Item { return s.Scan(series, lo, hi) }); !slices.Equal(got, want) {
		t.Fatalf("Scan of %d from %d to %d is %.200v, not %.200v", series, lo, hi, got, want)
	}
}

func gets(t *testing.T, s *Store, l []api.Item, series int, time uint64) {
	t.Helper()
	at := slices.IndexFunc(l, func(x api.Item) bool { return x.Series == series && x.Kind == api.ISample && x.Time == time })
	want := api.Item{}
	if at >= 0 {
		want = l[at]
	}
	if got, ok := s.Get(series, time); got != want || ok != (at >= 0) {
		t.Fatalf("Get of %d, %d is %v, %v, not %v", series, time, got, ok, want)
	}
}

// has fails where the State of s is not want, or its answers do not fit it.
func has(t *testing.T, why string, s *Store, want []api.Item) {
	t.Helper()
	got := fits(t, s)
	if !slices.Equal(got, want) {
		t.Fatalf("%s: State is %.300v, not %.300v", why, got, want)
	}
	asked(t, s, want)
}

// stands fails where Stats or the Files of s are others: files has each as its
// number, @ and its level.
func stands(t *testing.T, why string, s *Store, want api.Stats, files string) {
	t.Helper()
	if got := s.Stats(); got != want {
		t.Fatalf("%s: Stats is %v, not %v", why, got, want)
	}
	if got := filesOf(viewed(t, s)); got != files {
		t.Fatalf("%s: the Files are %s, not %s", why, got, files)
	}
}

func filesOf(v api.View) string {
	var l []string
	for _, f := range v.Files {
		l = append(l, fmt.Sprint(f.Num, "@", f.Level))
	}
	return strings.Join(l, " ")
}

// lasts fails where what Open tells of d, as it is now and whatever is lost of it,
// is not this State and these numbers.
func lasts(t *testing.T, why string, d *disk.Disk, want []api.Item, m api.Meta) {
	t.Helper()
	for i, keep := range losses() {
		c := d.Copy()
		c.Crash(keep)
		s := opens(t, why, c)
		has(t, fmt.Sprint(why, ", crashed ", i), s, want)
		if s.Meta() != m {
			t.Fatalf("%s, crashed %d: Meta is %v, not %v", why, i, s.Meta(), m)
		}
	}
}

// call is one of the calls that change a Store.
type call struct {
	name string
	do   func(s *Store) api.Errno
}

// changers answers all of them, with arguments of each kind.
func changers() []call {
	l := []call{
		{"Sync", (*Store).Sync},
		{"Flush", (*Store).Flush},
		{"Step", func(s *Store) api.Errno {
			done, e := s.Step()
			if done && e != api.OK {
				return -1
			}
			return e
		}},
	}
	for _, v := range []uint64{0, 1, 9, topVersion, math.MaxUint64} {
		l = append(l, call{fmt.Sprint("Purge of ", v), func(s *Store) api.Errno { return s.Purge(v) }})
	}
	for _, m := range []api.Meta{{}, {Floor: 1}, {Floor: 1, Cert: 2, At: 3, Lease: 4}, {Lease: math.MaxUint64}} {
		l = append(l, call{fmt.Sprint("SetMeta of ", m), func(s *Store) api.Errno { return s.SetMeta(m) }})
	}
	for _, batch := range [][]api.Item{nil, row(smp(200, 1, 1, 1)), {{}}, make([]api.Item, 1001), many(200, 0, 1001, 1)} {
		l = append(l, call{fmt.Sprintf("Apply of %.50v", batch), func(s *Store) api.Errno { return s.Apply(batch) }})
	}
	return l
}

// diskOf answers a Disk of this quota with the files of d, which last.
func diskOf(t *testing.T, d *disk.Disk, quota int) *disk.Disk {
	t.Helper()
	c := disk.New(quota)
	for _, name := range d.List() {
		b, _ := d.Read(name)
		put(t, c, name, b)
	}
	done(t, c.SyncDir())
	return c
}
