package store

import (
	"fmt"
	"maps"
	"slices"
	"strconv"
	"strings"
	"testing"

	"clepsydra/api"
	"clepsydra/disk"
	"clepsydra/edit"
	"clepsydra/man"
)

// 18.4: Open

func TestOpenOfNoDisk(t *testing.T) {
	s, e := opened(t, nil)
	expect(t, "nil", e, api.ErrArg)
	if s != nil {
		t.Error(s)
	}
}

func TestOpenOfADeadDisk(t *testing.T) {
	_, other := started(t)
	_, broken := started(t)
	done(t, broken.Remove("current"))
	for _, d := range []*disk.Disk{disk.New(0), disk.New(plenty), other, broken} {
		d.Stop(0)
		calls := d.Calls()
		s, e := opened(t, d)
		expect(t, "dead", e, api.ErrDead)
		if s != nil || d.Calls() != calls {
			t.Error("a dead Disk is called")
		}
	}
}

// callsOfNew is how many calls a new Store takes: two for its log, nine for its
// manifest.
const callsOfNew = 11

// isNewOne fails where s is not a new one.
func isNewOne(t *testing.T, why string, s *Store) {
	t.Helper()
	stands(t, why, s, api.Stats{}, "")
	has(t, why, s, nil)
	if v := viewed(t, s); !edit.Same(v, api.View{Log: 1}) || s.Meta() != (api.Meta{}) {
		t.Fatalf("%s: the View is %v", why, v)
	}
}

// newFiles answers the files of a new Store.
func newFiles() map[string]string {
	return map[string]string{"current": string(currentOf(1)), "log.1": "", "man.1": string(written(api.Edit{Log: 1}))}
}

func TestOpenOfAnEmptyDisk(t *testing.T) {
	d := disk.New(plenty)
	s := opens(t, "empty", d)
	isNewOne(t, "empty", s)
	if d.Calls() != callsOfNew || !maps.Equal(kept(d), newFiles()) {
		t.Errorf("%d calls leave %q", d.Calls(), kept(d))
	}
	lasts(t, "empty", d, nil, api.Meta{})
	// It is there now.
	same := untouched(d)
	isNewOne(t, "again", opens(t, "again", d))
	if !same() {
		t.Error("an Open of what is there does something")
	}
	done(t, applied(t, s, row(smp(1, 1, 1, 1))), s.Sync())
	lasts(t, "and goes on", d, row(smp(1, 1, 1, 1)), api.Meta{})
}

// others answers files that are not a Store's.
func others() map[string]string {
	return map[string]string{"x": "1", "current.tm": "", "current.tmp.": "2", "log": "3", "log.": "4", "log.01": "5", "log.0": "6", "log.1073741825": "7", "tab.00": "8", "tab.1a": "9", "man": "0", "man.1.": "a", "logs.1": "b", "tab.": ""}
}

// A new Store finds what one left that was not begun to its end, and takes it away.
func TestOpenOfEachBeginning(t *testing.T) {
	for _, beside := range []map[string]string{{}, others()} {
		for choice := range 8 {
			for _, junk := range []string{"", "junk", string(currentOf(7)), string(written(api.Edit{Log: 9}))} {
				d := disk.New(plenty)
				for name, b := range beside {
					put(t, d, name, []byte(b))
				}
				elder := 0
				for at, b := range []string{junk, "", junk} {
					if choice>>at&1 == 1 {
						put(t, d, []string{"current.tmp", "log.1", "man.1"}[at], []byte(b))
						elder++
					}
				}
				done(t, d.SyncDir())
				was, calls := d.List(), d.Calls()
				isNewOne(t, "a beginning", opens(t, "a beginning", d))
				if d.Calls() != calls+callsOfNew+elder {
					t.Errorf("%q: %d calls", was, d.Calls()-calls)
				}
				want := newFiles()
				maps.Copy(want, beside)
				if got := kept(d); !maps.Equal(got, want) {
					t.Errorf("%q: the files are %q", was, got)
				}
				lasts(t, "a beginning", d, nil, api.Meta{})
			}
		}
	}
}

// corrupt fails where Open does not tell ErrCorrupt, ahead of its first change.
func corrupt(t *testing.T, why string, d *disk.Disk) {
	t.Helper()
	same := untouched(d)
	s, e := opened(t, d)
	expect(t, why, e, api.ErrCorrupt)
	if s != nil || !same() {
		t.Fatalf("%s: a Disk that is refused is changed", why)
	}
}

// Without current there may be nothing else of a Store.
func TestOpenWithoutCurrent(t *testing.T) {
	for _, name := range []string{"log.2", "log.1073741824", "tab.1", "tab.2", "tab.1073741824", "man.2", "man.10"} {
		for _, b := range []string{"", "junk"} {
			for _, beside := range []string{"", "current.tmp", "log.1", "man.1", "x"} {
				d := disk.New(plenty)
				put(t, d, name, []byte(b))
				if beside != "" {
					put(t, d, beside, nil)
				}
				corrupt(t, name+" "+beside, d)
			}
		}
	}
	for _, b := range [][]byte{{0}, batchesOf(row(smp(1, 1, 1, 1))), batchesOf(row(smp(1, 1, 1, 1)))[:5]} {
		d := disk.New(plenty)
		put(t, d, "log.1", b)
		corrupt(t, "a log that has something", d)
	}
}

// full answers a Disk with several tables, a log of two batches and some numbers,
// and what its Store answers.
func full(t *testing.T) (*disk.Disk, []api.Item, api.Meta) {
	t.Helper()
	m := api.Meta{Floor: 11, Cert: 12, At: 13, Lease: topVersion}
	v := api.View{Log: 5, Files: []api.File{file(3, 9), file(0, 300), file(1, 2)}, Floor: m.Floor, Cert: m.Cert, At: m.At, Lease: m.Lease}
	tables := map[int][]api.Item{9: many(1, 0, 45, 5), 300: row(tomb(2, 7), smp(3, 3, 3, 3)), 2: nil}
	batches := [][]api.Item{row(smp(2, 1, 9, 1), smp(2, 2, 7, 1)), row(tomb(3, 1), smp(1, 3, 6, 9))}
	want := plain(tables[9], tables[300], batches[0], batches[1])
	return by(t, v, tables, batches...), want, m
}

func TestOpen(t *testing.T) {
	d, want, m := full(t)
	same := untouched(d)
	s := opens(t, "full", d)
	if !same() {
		t.Error("an Open of what is there does something")
	}
	has(t, "full", s, want)
	stands(t, "full", s, api.Stats{Items: len(want), Buffered: 4, Files: 3, Batches: 2}, "9@3 300@0 2@1")
	if s.Meta() != m || s.View().Log != 5 {
		t.Errorf("Meta is %v, the View %v", s.Meta(), s.View())
	}
	lasts(t, "full", d, want, m)
	done(t, applied(t, s, row(smp(9, 9, 9, 9))), s.Sync())
	lasts(t, "and goes on", d, plain(want, row(smp(9, 9, 9, 9))), m)
	done(t, s.Flush(), s.Purge(7))
	lasts(t, "and goes on", d, purged(plain(want, row(smp(9, 9, 9, 9))), 7), m)
}

// without answers a copy of d in which the file of this name has other bytes, or,
// for nil, is not there.
func without(t *testing.T, d *disk.Disk, name string, b []byte) *disk.Disk {
	t.Helper()
	c := d.Copy()
	done(t, c.Remove(name))
	if b != nil {
		put(t, c, name, b)
	}
	return c
}

func TestOpenOfATurnedFile(t *testing.T) {
	d, _, _ := full(t)
	for _, name := range d.List() {
		corrupt(t, name+" is not there", without(t, d, name, nil))
		b, _ := d.Read(name)
		for bit := 0; bit < 8*len(b); bit += 1 + len(b)/100 {
			turn(b, bit)
			corrupt(t, fmt.Sprint(name, ", bit ", bit), without(t, d, name, b))
			turn(b, bit)
		}
		other := "log.5"
		if name == other {
			other = "tab.9"
		}
		astray, _ := d.Read(other)
		corrupt(t, name+" has the bytes of another", without(t, d, name, astray))
		corrupt(t, name+" has junk behind it", without(t, d, name, append(b, "a longer piece of junk"...)))
		corrupt(t, name+" is a table behind junk", without(t, d, name, append([]byte("x"), b...)))
	}
}

func TestOpenOfACutFile(t *testing.T) {
	d, want, m := full(t)
	for _, name := range d.List() {
		if name == "log.5" {
			continue
		}
		b, _ := d.Read(name)
		// The manifest has one Edit: a part of it is none.
		for n := range b {
			corrupt(t, fmt.Sprint(name, " cut at ", n), without(t, d, name, append([]byte{}, b[:n]...)))
		}
	}
	// A manifest whose last Edit is cut is that of the others, and laid anew.
	b, _ := d.Read("man.1")
	more := written(api.Edit{Floor: 99})
	for n := 1; n < len(more); n++ {
		c := without(t, d, "man.1", append(slices.Clone(b), more[:n]...))
		s := opens(t, "a cut Edit", c)
		has(t, "a cut Edit", s, want)
		names(t, "a cut Edit", c, "current log.5 man.2 tab.2 tab.300 tab.9")
		lasts(t, "a cut Edit", c, want, m)
	}
}

// torn answers the Disk of full with a log that ends within its n-th byte.
func torn(t *testing.T, n int) *disk.Disk {
	t.Helper()
	d, _, _ := full(t)
	b, _ := d.Read("log.5")
	d = without(t, d, "log.5", append([]byte{}, b[:n]...))
	done(t, d.SyncDir())
	return d
}

// Of a torn log the whole batches are laid in a new one, which is there ahead of
// the elder one's going.
func TestOpenOfATornLog(t *testing.T) {
	d, _, m := full(t)
	b, _ := d.Read("log.5")
	batches := [][]api.Item{row(smp(2, 1, 9, 1), smp(2, 2, 7, 1)), row(tomb(3, 1), smp(1, 3, 6, 9))}
	first := len(batchesOf(batches[0]))
	tables := [][]api.Item{many(1, 0, 45, 5), row(tomb(2, 7), smp(3, 3, 3, 3))}
	for n := range len(b) + 1 {
		whole := 0
		if n >= first {
			whole++
		}
		if n == len(b) {
			whole++
		}
		want := plain(append(slices.Clone(tables), batches[:whole]...)...)
		d := torn(t, n)
		calls := d.Calls()
		s := opens(t, "torn", d)
		has(t, "torn", s, want)
		stands(t, "torn", s, api.Stats{Items: len(want), Buffered: 2 * whole, Files: 3, Batches: whole}, "9@3 300@0 2@1")
		log := 5
		if n > 0 && n != first && n < len(b) {
			log = 301
			// Create, a Put for each batch, Sync, SyncDir, two for the Edit, Remove.
			if d.Calls() != calls+6+whole {
				t.Errorf("cut at %d: %d calls", n, d.Calls()-calls)
			}
		} else if d.Calls() != calls {
			t.Errorf("cut at %d: %d calls", n, d.Calls()-calls)
		}
		name := man.Name("log", log)
		names(t, "torn", d, "current "+name+" man.1 tab.2 tab.300 tab.9")
		if got, _ := d.Read(name); s.View().Log != log || string(got) != string(batchesOf(batches[:whole]...)) {
			t.Errorf("cut at %d: %s has %x", n, name, got)
		}
		lasts(t, "torn", d, want, m)
		done(t, applied(t, s, row(smp(9, 9, 9, 9))), s.Sync())
		lasts(t, "and goes on", d, plain(want, row(smp(9, 9, 9, 9))), m)
	}
}

func TestOpenOfATornLogThatFailsAtEachCall(t *testing.T) {
	n := len(batchesOf(row(smp(2, 1, 9, 1), smp(2, 2, 7, 1)))) + 7
	want := stated(t, opens(t, "torn", torn(t, n)))
	_, _, m := full(t)
	for k := 1; k <= 7; k++ {
		for _, stop := range []bool{false, k > 1} {
			why := fmt.Sprint("fails at ", k, ", ", stop)
			d := torn(t, n)
			calls, e := d.Calls(), api.ErrFull
			if d.Fail(k); stop {
				d.Fail(0)
				d.Stop(k - 1)
				e = api.ErrDead
			}
			s, got := opened(t, d)
			expect(t, why, got, e)
			if s != nil || d.Calls() != calls+k {
				t.Errorf("%s: it goes on", why)
			}
			lasts(t, why, d, want, m)
			if !stop {
				has(t, why+", and again", opens(t, why, d), want)
			}
		}
	}
	d := torn(t, n)
	put(t, d, "tab.1073741824", nil)
	same := untouched(d)
	for range 2 {
		_, e := opened(t, d)
		expect(t, "no number", e, api.ErrMany)
		if !same() {
			t.Error("an Open without a number does something")
		}
	}
	done(t, d.Remove("tab.1073741824"))
	has(t, "a number", opens(t, "a number", d), want)
	// There is room for the elder log, but not for another.
	d = torn(t, n)
	d = diskOf(t, d, d.Used()+10)
	_, e := opened(t, d)
	expect(t, "no room", e, api.ErrFull)
}

// What nothing names goes; other files stay.
func TestOpenBesideOtherFiles(t *testing.T) {
	own := []string{"current.tmp", "log.1", "log.50", "log.1073741824", "man.2", "man.77", "tab.1", "tab.10", "tab.1073741824", "tab.5"}
	d, want, m := full(t)
	there := kept(d)
	for name, b := range others() {
		put(t, d, name, []byte(b))
		there[name] = b
	}
	for at, name := range own {
		put(t, d, name, []byte(strings.Repeat("x", at*at)))
	}
	done(t, d.SyncDir())
	for k := range len(own) + 1 {
		c := d.Copy()
		calls := c.Calls()
		c.Fail(k)
		s := opens(t, "other files", c)
		if c.Calls() != calls+len(own) {
			t.Errorf("%d calls", c.Calls()-calls)
		}
		left := maps.Clone(there)
		if k > 0 {
			// One of them is not Removed: nothing is told of it, and the others are.
			name := slices.Sorted(slices.Values(own))[k-1]
			b, _ := d.Read(name)
			left[name] = string(b)
		}
		if got := kept(c); !maps.Equal(got, left) {
			t.Errorf("fails at %d: the files are %q", k, got)
		}
		has(t, "other files", s, want)
		stands(t, "other files", s, api.Stats{Items: len(want), Buffered: 4, Files: 3, Batches: 2}, "9@3 300@0 2@1")
		lasts(t, "other files", c, want, m)
		// It dies within.
		c = d.Copy()
		c.Stop(k)
		s, e := opened(t, c)
		if expect(t, "dies", e, map[bool]api.Errno{true: api.ErrDead, false: api.OK}[k == 0]); k > 0 {
			has(t, "dies", s, want)
		}
		lasts(t, "dies", c, want, m)
	}
}

// Of a torn log, too: the number of the new one is above that of each file there
// is.
func TestOpenOfATornLogBesideOtherFiles(t *testing.T) {
	d := torn(t, 8)
	for _, name := range []string{"log.1000", "tab.2000", "man.3000", "log.7"} {
		put(t, d, name, nil)
	}
	s := opens(t, "torn", d)
	names(t, "torn", d, "current log.2001 man.1 tab.2 tab.300 tab.9")
	if s.View().Log != 2001 {
		t.Error(s.View())
	}
}

// A long manifest, and a torn one, is laid anew, behind a look at all that may be
// corrupt.
func TestOpenOfAManifestThatIsLaidAnew(t *testing.T) {
	for _, kind := range []string{"long", "torn"} {
		d, want, m := full(t)
		if kind == "torn" {
			done(t, d.Append("man.1", written(api.Edit{Floor: 5})[:7]), d.Sync("man.1"))
		} else {
			for range 30 {
				done(t, d.Append("man.1", written(api.Edit{Floor: 11})), d.Sync("man.1"))
			}
		}
		for _, name := range []string{"tab.9", "tab.300", "tab.2", "log.5"} {
			corrupt(t, kind+", "+name+" is not there", without(t, d, name, nil))
			b, _ := d.Read(name)
			corrupt(t, kind+", "+name+" is turned", without(t, d, name, append([]byte("12345678"), b...)))
		}
		c := d.Copy()
		s := opens(t, kind, c)
		has(t, kind, s, want)
		names(t, kind, c, "current log.5 man.2 tab.2 tab.300 tab.9")
		lasts(t, kind, c, want, m)
		// Its errors are told.
		for k := range 9 {
			c := d.Copy()
			calls := c.Calls()
			c.Fail(k + 1)
			_, e := opened(t, c)
			expect(t, kind, e, api.ErrFull)
			if c.Calls() != calls+k+1 {
				t.Errorf("%s, fails at %d: it goes on", kind, k+1)
			}
			lasts(t, kind+", fails at "+strconv.Itoa(k+1), c, want, m)
		}
	}
	// It is not laid anew with 30 Edits.
	d, want, m := full(t)
	for range 29 {
		done(t, d.Append("man.1", written(api.Edit{Floor: 11})), d.Sync("man.1"))
	}
	same := untouched(d)
	has(t, "30", opens(t, "30", d), want)
	if !same() {
		t.Error("a manifest of 30 Edits is laid anew")
	}
	lasts(t, "30", d, want, m)
}

// Where current leads to a manifest that is none.
func TestOpenOfACurrentThatLeadsAstray(t *testing.T) {
	d, _, _ := full(t)
	for _, n := range []uint64{0, 2, 9, topNum, topNum + 1, 1 << 32, 1<<32 + 1, 1 << 63, 1<<64 - 1} {
		corrupt(t, fmt.Sprint(n), without(t, d, "current", currentOf(n)))
	}
	corrupt(t, "empty", without(t, d, "current", []byte{}))
	corrupt(t, "twice", without(t, d, "current", append(currentOf(1), currentOf(1)...)))
	b, _ := edit.Put(nil, api.Edit{Log: 1})
	corrupt(t, "an Edit", without(t, d, "current", b))
	// One that drops what is not there, one without a log, one of no Edits.
	for _, l := range [][]api.Edit{{{Log: 5}, {Drop: []int{9}}}, {{Floor: 5}}, {}} {
		corrupt(t, "no View", without(t, d, "man.1", append([]byte{}, written(l...)...)))
	}
}

func TestOpenOfANewOneThatFailsAtEachCall(t *testing.T) {
	for elder := range 4 {
		elders := []string{"current.tmp", "log.1", "man.1"}[:elder]
		for k := 1; k <= callsOfNew+elder; k++ {
			for _, stop := range []bool{false, k > 1} {
				why := fmt.Sprint(elders, " fails at ", k, ", ", stop)
				d := disk.New(plenty)
				for _, name := range elders {
					put(t, d, name, nil)
				}
				done(t, d.SyncDir())
				calls, e := d.Calls(), api.ErrFull
				if d.Fail(k); stop {
					d.Fail(0)
					d.Stop(k - 1)
					e = api.ErrDead
				}
				s, got := opened(t, d)
				expect(t, why, got, e)
				if s != nil || d.Calls() != calls+k {
					t.Errorf("%s: it goes on", why)
				}
				for _, keep := range losses() {
					c := d.Copy()
					c.Crash(keep)
					isNewOne(t, why, opens(t, why, c))
				}
				if !stop {
					isNewOne(t, why+", and again", opens(t, why, d))
				}
			}
		}
	}
}

func TestOpenOfANewOneOnASmallDisk(t *testing.T) {
	one := len(written(api.Edit{Log: 1})) + len(currentOf(1))
	for quota := -1; quota < one+5; quota++ {
		d := disk.New(quota)
		s, e := opened(t, d)
		if quota >= one {
			expect(t, "room", e, api.OK)
			isNewOne(t, "room", s)
			continue
		}
		expect(t, "no room", e, api.ErrFull)
		_, e = opened(t, d)
		expect(t, "no room, again", e, api.ErrFull)
	}
	d := disk.New(plenty)
	for i := range 64 {
		done(t, d.Create("x."+strconv.Itoa(i)))
	}
	for i := range 3 {
		_, e := opened(t, d)
		expect(t, "64 names", e, api.ErrMany)
		done(t, d.Remove("x."+strconv.Itoa(i)))
	}
	isNewOne(t, "61 names", opens(t, "61 names", d))
}
