package log

import (
	"strconv"
	"testing"
	"unsafe"

	"clepsydra/api"
	"clepsydra/disk"
)

// names that may not be, by 4.1.
func badNames() []string {
	return []string{"", "A", "log 1", "log/1", "log-1", "log_1", "\x00", "\xff", "ä", "abcdefghijklmnopq"}
}

// 14.1: New

func TestNew(t *testing.T) {
	for _, name := range []string{"a", ".", "0", "log.1", "abcdefghijklmnop"} {
		d := disk.New(1000)
		g, e := New(d, name)
		done(t, e)
		sized(t, name, g, 0, 0)
		if l := d.List(); len(l) != 1 || l[0] != name || d.Used() != 0 || d.Calls() != 1 {
			t.Errorf("behind New there are %q, %d bytes, %d calls", l, d.Used(), d.Calls())
		}
		done(t, put(t, g, row(3)), g.Sync())
		if got := fileOf(d, name); got != string(batch(row(3)...)) {
			t.Errorf("%s is %x", name, got)
		}
	}
}

func newRefused(t *testing.T, why string, d *disk.Disk, name string, want api.Errno) {
	t.Helper()
	if g, e := New(d, name); g != nil || e != want {
		t.Errorf("%s: New is %v, %v, not %v", why, g, e, want)
	}
}

func TestNewRefuses(t *testing.T) {
	for _, name := range append(badNames(), "a") {
		newRefused(t, "no disk", nil, name, api.ErrArg)
	}
	d := diskOf(t, []byte("whatever"))
	for _, name := range badNames() {
		newRefused(t, "a name that may not be", d, name, api.ErrName)
	}
	newRefused(t, "one that is there", d, "log.1", api.ErrExists)
	if fileOf(d, "log.1") != "whatever" || len(d.List()) != 1 {
		t.Errorf("a refused New leaves %q", d.List())
	}
	d.Fail(1)
	newRefused(t, "a Create that fails", d, "log.2", api.ErrFull)
	if len(d.List()) != 1 {
		t.Errorf("a refused New leaves %q", d.List())
	}
	if _, e := New(d, "log.2"); e != api.OK {
		t.Error("behind it", e)
	}
	for i := range 62 {
		done(t, d.Create("x."+strconv.Itoa(i)))
	}
	newRefused(t, "the 65th name", d, "log.3", api.ErrMany)
	d.Stop(0)
	newRefused(t, "a dead disk", d, "log.3", api.ErrDead)
	newRefused(t, "a dead disk", d, "log.1", api.ErrDead)
	newRefused(t, "a name on a dead disk", d, "A", api.ErrName)
}

// 14.1: Open

func TestOpenRefuses(t *testing.T) {
	refuses := func(why string, d *disk.Disk, name string, want api.Errno) {
		t.Helper()
		if _, _, _, e := opened(t, d, name); e != want {
			t.Errorf("%s: Open is %v, not %v", why, e, want)
		}
	}
	for _, name := range append(badNames(), "a") {
		if g, l, whole, e := Open(nil, name); g != nil || l != nil || whole || e != api.ErrArg {
			t.Error("no disk", g, l, whole, e)
		}
	}
	d := diskOf(t, batch(tomb(1, 1)))
	for _, name := range badNames() {
		refuses("a name that may not be", d, name, api.ErrName)
	}
	refuses("one that is not there", d, "log.2", api.ErrNone)
	_, junk := tails()
	for _, b := range append(junk, others()...) {
		refuses("corrupt", diskOf(t, b), "log.1", api.ErrCorrupt)
		refuses("corrupt behind a batch", diskOf(t, join(batch(row(3)...), b)), "log.1", api.ErrCorrupt)
	}
	turned := written(three()...)
	for _, at := range []int{0, len(turned) / 2, len(turned) - 1} {
		turned[at] ^= 1
		refuses("turned", diskOf(t, turned), "log.1", api.ErrCorrupt)
		turned[at] ^= 1
	}
	d.Stop(0)
	refuses("a dead disk", d, "log.1", api.ErrDead)
	refuses("a dead disk", d, "log.2", api.ErrDead)
	refuses("a name on a dead disk", d, "A", api.ErrName)
}

func TestOpenDoesNotCount(t *testing.T) {
	d := diskOf(t, written(three()...))
	d.Stop(1)
	d.Fail(1)
	if _, l, whole, e := opened(t, d, "log.1"); !sameBatches(l, three()) || !whole || e != api.OK {
		t.Error(l, whole, e)
	}
}

func TestOpenGoesOnBehindTheEnd(t *testing.T) {
	all := three()
	for n := range len(all) + 1 {
		d := diskOf(t, written(all[:n]...))
		g, l, whole, e := opened(t, d, "log.1")
		if !sameBatches(l, all[:n]) || !whole || e != api.OK {
			t.Fatal(n, l, whole, e)
		}
		has(t, "opened", g, d, all[:n]...)
		want := append([][]api.Item{}, all[:n]...)
		for i := 1; i < 5; i++ {
			done(t, put(t, g, row(i)))
			want = append(want, row(i))
			has(t, "put behind", g, d, want...)
		}
		done(t, g.Sync())
		d.Crash([]int{0, 0, 0})
		has(t, "synced", g, d, want...)
	}
}

func TestATornLog(t *testing.T) {
	torn, _ := tails()
	all := three()
	for n := range len(all) + 1 {
		ahead := written(all[:n]...)
		for _, tail := range torn {
			d := diskOf(t, ahead)
			done(t, d.Append("log.1", tail))
			g, l, whole, e := opened(t, d, "log.1")
			if g == nil || !sameBatches(l, all[:n]) || whole || e != api.OK {
				t.Fatalf("%d, then %.20x: %v, %v, %v", n, tail, l, whole, e)
			}
			refusesAll(t, g, d)
			sized(t, "torn", g, len(ahead), n)
			if got := fileOf(d, "log.1"); got != string(ahead)+string(tail) {
				t.Fatalf("%d, then %.20x: the file is %x", n, tail, got)
			}
			d.Crash([]int{0})
			if got := fileOf(d, "log.1"); got != string(ahead) {
				t.Fatalf("%d, then %.20x: it lasts: %x", n, tail, got)
			}
			expect(t, "torn it stays", g.Put(row(1)), api.ErrCorrupt)
		}
	}
}

// refusesAll fails where a Put or Sync of a torn Log is not ErrCorrupt, whatever
// else could be told, or where the Disk is called.
func refusesAll(t *testing.T, g *Log, d *disk.Disk) {
	t.Helper()
	calls := d.Calls()
	for _, l := range [][]api.Item{row(1), row(2000), nil, row(2001), bad()} {
		expect(t, "Put", put(t, g, l), api.ErrCorrupt)
		expect(t, "Sync", g.Sync(), api.ErrCorrupt)
	}
	if d.Calls() != calls {
		t.Errorf("%d calls of the disk", d.Calls()-calls)
	}
}

func TestATornLogOfADeadDisk(t *testing.T) {
	d := diskOf(t, join(batch(row(1)...), []byte{1}))
	g, _, _, _ := opened(t, d, "log.1")
	d.Stop(0)
	refusesAll(t, g, d)
	sized(t, "torn and dead", g, len(batch(row(1)...)), 1)
}

// 14.1: Put, Sync, Size, Count

func TestPutGoesOn(t *testing.T) {
	g, d := started(t, 1<<20)
	has(t, "new", g, d)
	var all [][]api.Item
	for i, l := range append(three(), row(1000), row(1001), row(2000), edges(), row(1)) {
		calls := d.Calls()
		done(t, put(t, g, l))
		all = append(all, l)
		has(t, "put "+strconv.Itoa(i), g, d, all...)
		if i%2 == 0 {
			done(t, g.Sync())
			has(t, "synced", g, d, all...)
		}
		if n := d.Calls() - calls; n != 1+(i+1)%2 {
			t.Errorf("%d calls of the disk", n)
		}
	}
}

func TestPutThatBatchRefuses(t *testing.T) {
	g, d := started(t, 1<<20)
	var all [][]api.Item
	again := func(why string, l []api.Item, want api.Errno) {
		t.Helper()
		calls := d.Calls()
		expect(t, why, put(t, g, l), want)
		if d.Calls() != calls {
			t.Errorf("%s: the disk was called", why)
		}
		has(t, why, g, d, all...)
		done(t, put(t, g, row(2)))
		all = append(all, row(2))
		has(t, why+", and then one", g, d, all...)
	}
	again("nil", nil, api.ErrArg)
	again("no item", list(), api.ErrArg)
	again("one that may not be", list(tomb(1, 1), api.Item{}), api.ErrArg)
	again("too many", row(2001), api.ErrLong)
	again("too many that may not be", make([]api.Item, 2001), api.ErrLong)
	for _, x := range bad() {
		again("one that may not be", list(x), api.ErrArg)
	}
	d.Stop(0)
	expect(t, "no item, dead", put(t, g, nil), api.ErrArg)
	expect(t, "too many, dead", put(t, g, row(2001)), api.ErrLong)
	expect(t, "dead", put(t, g, row(1)), api.ErrDead)
}

func TestPutBeyondTheQuota(t *testing.T) {
	small, great := row(1), row(40)
	quota := 2*len(batch(small...)) + len(batch(great...)) - 1
	g, d := started(t, quota)
	done(t, put(t, g, small))
	for range 3 {
		expect(t, "beyond", put(t, g, widest(40)), api.ErrFull)
		has(t, "beyond", g, d, small)
	}
	done(t, put(t, g, great))
	has(t, "within", g, d, small, great)
	expect(t, "one byte beyond", put(t, g, small), api.ErrFull)
	has(t, "one byte beyond", g, d, small, great)
	expect(t, "likewise", put(t, g, row(1)), api.ErrFull)
	done(t, g.Sync())
	has(t, "synced", g, d, small, great)

	g, d = started(t, quota+1)
	done(t, put(t, g, small), put(t, g, great), put(t, g, small))
	has(t, "just within", g, d, small, great, small)
}

func TestPutBeyondAFilesLength(t *testing.T) {
	g, d := started(t, 1<<20)
	var all [][]api.Item
	for range 4 {
		done(t, put(t, g, widest(2000)))
		all = append(all, widest(2000))
	}
	expect(t, "beyond", put(t, g, widest(2000)), api.ErrLong)
	has(t, "beyond", g, d, all...)
	done(t, put(t, g, widest(1900)))
	has(t, "within", g, d, append(all, widest(1900))...)
}

func TestPutThatFails(t *testing.T) {
	g, d := started(t, 1000)
	done(t, put(t, g, row(1)))
	for range 3 {
		d.Fail(1)
		expect(t, "fails", put(t, g, row(2)), api.ErrFull)
		sized(t, "fails", g, len(batch(row(1)...)), 1)
		has(t, "fails", g, d, row(1))
	}
	done(t, put(t, g, row(3)))
	has(t, "behind it", g, d, row(1), row(3))
}

func TestPutAndSyncOfADeadDisk(t *testing.T) {
	g, d := started(t, 1000)
	done(t, put(t, g, row(1)), g.Sync())
	d.Stop(1)
	done(t, put(t, g, row(2)))
	size := len(written(row(1), row(2)))
	for range 3 {
		expect(t, "dead", put(t, g, row(3)), api.ErrDead)
		expect(t, "dead", g.Sync(), api.ErrDead)
		sized(t, "dead", g, size, 2)
	}
	d.Crash(nil)
	has(t, "alive", g, d, row(1), row(2))
	done(t, put(t, g, row(3)), g.Sync())
	has(t, "alive", g, d, row(1), row(2), row(3))
}

func TestPutAndSyncWithoutAFile(t *testing.T) {
	g, d := started(t, 1000)
	done(t, put(t, g, row(1)), d.Remove("log.1"))
	for range 2 {
		expect(t, "gone", put(t, g, row(1)), api.ErrNone)
		expect(t, "gone", g.Sync(), api.ErrNone)
		sized(t, "gone", g, len(batch(row(1)...)), 1)
	}
}

func TestSync(t *testing.T) {
	g, d := started(t, 1000)
	done(t, g.Sync(), put(t, g, row(1)))
	d.Fail(1)
	expect(t, "fails", g.Sync(), api.ErrFull)
	has(t, "fails", g, d, row(1))
	c := d.Copy()
	c.Crash([]int{0})
	if got := fileOf(c, "log.1"); got != "" {
		t.Errorf("a Sync that failed made %x last", got)
	}
	done(t, g.Sync(), put(t, g, row(2)))
	d.Crash([]int{0})
	if got := fileOf(d, "log.1"); got != string(batch(row(1)...)) {
		t.Errorf("what lasts is %x", got)
	}
}

// Each Log has a file of its own, and a count of its own.
func TestLogsBesideEachOther(t *testing.T) {
	d := disk.New(1000)
	g, e := New(d, "log.1")
	h, f := New(d, "log.2")
	done(t, e, f, put(t, g, row(1)), put(t, h, row(2)), put(t, g, row(3)))
	has(t, "the first", g, d, row(1), row(3))
	sized(t, "the second", h, len(batch(row(2)...)), 1)
	if got := fileOf(d, "log.2"); got != string(batch(row(2)...)) {
		t.Errorf("the second is %x", got)
	}
	expect(t, "Sync of the second", h.Sync(), api.OK)
	d.Crash([]int{0})
	if fileOf(d, "log.1") != "" || fileOf(d, "log.2") != string(batch(row(2)...)) {
		t.Errorf("what lasts is %q and %q", fileOf(d, "log.1"), fileOf(d, "log.2"))
	}
}

func TestNamesAreNotKept(t *testing.T) {
	d := diskOf(t, batch(row(1)...))
	done(t, d.Create("zzzzz"))
	buf := []byte("log.1log.2")
	h, _, _, e := Open(d, unsafe.String(&buf[0], 5))
	g, f := New(d, unsafe.String(&buf[5], 5))
	copy(buf, "zzzzzzzzzz")
	done(t, e, f, h.Put(row(2)), g.Put(row(3)), h.Sync(), g.Sync())
	if fileOf(d, "log.1") != string(written(row(1), row(2))) || fileOf(d, "log.2") != string(batch(row(3)...)) || fileOf(d, "zzzzz") != "" {
		t.Error("a name was kept")
	}
}
