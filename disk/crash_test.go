package disk

import (
	"math"
	"testing"
)

// crashed answers what a Copy of d tells behind a Crash.
func crashed(d *Disk, keep ...int) string {
	c := d.Copy()
	c.Crash(keep)
	return told(c)
}

func crashes(t *testing.T, d *Disk, want string, keep ...int) {
	t.Helper()
	if got := crashed(d, keep...); got != want {
		t.Errorf("%v: %q, not %q", keep, got, want)
	}
}

func TestTheExample(t *testing.T) {
	d := New(1000)
	done(t, d.Create("a"), d.Append("a", []byte("xyz")), d.SyncDir())
	d.Crash([]int{2})
	holds(t, d, "a=xy")
}

func TestHowManyBytesAreKept(t *testing.T) {
	d := New(1000)
	done(t, d.Create("a"), d.Append("a", []byte("xyz")), d.SyncDir())
	for k, want := range map[int]string{0: "", 1: "x", 2: "xy", 3: "xyz", 4: "", 5: "x", 7: "xyz", -1: "xyz", -2: "xy", -3: "x", -4: "", -5: "xyz", math.MaxInt: "xyz", math.MinInt: "", math.MinInt + 1: "x"} {
		crashes(t, d, "a="+want, k)
	}
	crashes(t, d, "a=xyz")
	done(t, d.Sync("a"))
	crashes(t, d, "a=xyz", 0)
	done(t, d.Append("a", []byte("pq")))
	for k, want := range map[int]string{0: "", 1: "p", 2: "pq", 3: "", -1: "pq", -2: "p", math.MaxInt: "p", math.MinInt: "p"} {
		crashes(t, d, "a=xyz"+want, k)
	}
}

func TestFilesInTheOrderOfTheirCreation(t *testing.T) {
	d := New(1000)
	done(t, d.Create("z"), d.Create("m"), d.Create("a"), d.SyncDir())
	done(t, d.Append("a", []byte("3333")), d.Append("m", []byte("2222")), d.Append("z", []byte("1111")))
	crashes(t, d, "a=333 m=22 z=1", 1, 2, 3)
	crashes(t, d, "a=3333 m=22 z=1", 1, 2)
	done(t, d.Sync("m"))
	crashes(t, d, "a=33 m=2222 z=1", 1, 2, 3)
	done(t, d.Rename("z", "zz"), d.Rename("a", "z"), d.Rename("zz", "a"), d.SyncDir())
	crashes(t, d, "a=1 m=2222 z=33", 1, 2)
}

func TestOrderIsKeptBehindACrash(t *testing.T) {
	d := New(1000)
	done(t, d.Create("b"), d.Create("c"), d.Remove("b"), d.SyncDir())
	d.Crash(nil)
	done(t, d.Create("a"), d.Append("a", []byte("22")), d.Append("c", []byte("11")), d.SyncDir())
	crashes(t, d, "a= c=1", 1, 0)
}

func TestFilesWithoutAName(t *testing.T) {
	d := New(1000)
	done(t, d.Create("a"), d.Append("a", []byte("11")), d.SyncDir())
	done(t, d.Create("b"), d.Append("b", []byte("22")), d.Create("c"), d.Append("c", []byte("33")))
	done(t, d.Remove("a"), d.Remove("b"))
	holds(t, d, "c=33")
	crashes(t, d, "c=3", 0, 0, 1)
	crashes(t, d, "a=1 b=22 c=3", 1, 2, 1, 0, 0, 1, 1)
	crashes(t, d, "a=1 c=3", 1, 2, 1, 0, 0, 1, 0)
	crashes(t, d, "b=22 c=3", 1, 2, 1, 0, 0, 0, 1)
	done(t, d.SyncDir())
	crashes(t, d, "c=3", 1, 1, 1)
	crashes(t, d, "c=", 0, 1, 1)
}

func TestAFileThatWasRenamedOnto(t *testing.T) {
	d := New(1000)
	done(t, d.Create("a"), d.Append("a", []byte("11")), d.Create("b"), d.Append("b", []byte("22")), d.SyncDir())
	done(t, d.Rename("b", "a"))
	holds(t, d, "a=22")
	crashes(t, d, "a=2", 0, 1)
	crashes(t, d, "a=1 b=2", 1, 1, 1)
	crashes(t, d, "a=22")
}

func TestCreateKeptAndNot(t *testing.T) {
	d := New(1000)
	done(t, d.Create("a"), d.Create("b"))
	for _, x := range []struct {
		want string
		keep []int
	}{
		{"a= b=", nil}, {"a= b=", []int{0}}, {"b=", []int{1}}, {"b=", []int{-1, -2}}, {"a=", []int{2, 3}}, {"", []int{-3, math.MaxInt}}, {"a=", []int{math.MinInt, -1}},
	} {
		crashes(t, d, x.want, x.keep...)
	}
	done(t, d.Append("b", []byte("xy")), d.Sync("b"))
	crashes(t, d, "", 1, 1)
	crashes(t, d, "b=xy", 1, 0)
}

func TestRemoveKeptAndNot(t *testing.T) {
	d := New(1000)
	done(t, d.Create("a"), d.Append("a", []byte("1")), d.Sync("a"), d.SyncDir())
	done(t, d.Remove("a"))
	crashes(t, d, "", 0)
	crashes(t, d, "a=1", 1)
	done(t, d.Create("a"), d.Append("a", []byte("22")), d.Sync("a"))
	crashes(t, d, "a=22", 1, 0)
	crashes(t, d, "a=1", 1, 1)
	crashes(t, d, "a=22", 0, 0)
	crashes(t, d, "", 0, 1)
	done(t, d.Remove("a"))
	crashes(t, d, "", 1, 1, 0)
	crashes(t, d, "a=22", 1, 0, 1)
}

func TestRenameKeptAndNot(t *testing.T) {
	d := New(1000)
	done(t, d.Create("a"), d.Append("a", []byte("1")), d.Sync("a"), d.Create("b"), d.SyncDir())
	done(t, d.Rename("a", "b"))
	crashes(t, d, "b=1", 0)
	crashes(t, d, "a=1 b=", 1)
	done(t, d.Rename("b", "c"), d.Rename("c", "d"))
	crashes(t, d, "d=1")
	crashes(t, d, "b=1", 0, 1, 0)
	crashes(t, d, "a=1 d=", 1, 0, 0)
	crashes(t, d, "a=1 c=", 1, 0, 1)
	crashes(t, d, "a=1 b=", 1, 1, 0)
}

func TestARenameOfAnameThatIsNotThereTakesNothingAway(t *testing.T) {
	d := New(1000)
	done(t, d.Create("b"), d.Append("b", []byte("2")), d.Sync("b"), d.SyncDir())
	done(t, d.Create("a"), d.Rename("a", "b"))
	crashes(t, d, "b=2", 1, 0)
	crashes(t, d, "b=", 0, 0)
	crashes(t, d, "a= b=2", 0, 1)
}

func TestARenameToItselfIsNoChangeOfNames(t *testing.T) {
	d := New(1000)
	done(t, d.Create("a"), d.Rename("a", "a"), d.Create("b"))
	crashes(t, d, "a=", 0, 1)
	crashes(t, d, "b=", 1, 0)
}

func TestWhatIsRefusedIsNoChangeOfNames(t *testing.T) {
	d := New(1000)
	done(t, d.Create("a"))
	d.Create("a")
	d.Remove("b")
	d.Rename("b", "c")
	d.Remove("A")
	done(t, d.Create("b"))
	crashes(t, d, "a=", 0, 1)
}

func TestWhatStandsBehindACrashLasts(t *testing.T) {
	d := New(1000)
	done(t, d.Create("a"), d.Append("a", []byte("xyz")), d.Create("b"))
	d.Crash([]int{2, 0, 1})
	holds(t, d, "a=xy")
	crashes(t, d, "a=xy", 0, 1, 1, 1)
	done(t, d.Append("a", []byte("pq")))
	crashes(t, d, "a=xyp", 1)
	crashes(t, d, "a=xy", 0)
	done(t, d.Remove("a"))
	crashes(t, d, "a=xy", 0, 1)
	d.Crash([]int{0, 0})
	holds(t, d, "")
	done(t, d.Create("a"))
	holds(t, d, "a=")
}

func TestQuotaBehindACrash(t *testing.T) {
	d := New(10)
	done(t, d.Create("a"), d.Append("a", []byte("1234567890")), d.Sync("a"), d.SyncDir())
	done(t, d.Remove("a"), d.Create("b"), d.Append("b", []byte("123")), d.Sync("b"))
	d.Crash([]int{1, 0})
	holds(t, d, "a=1234567890 b=123")
	if d.Used() != 13 {
		t.Error(d.Used())
	}
	if e := d.Append("b", []byte("x")); e == 0 {
		t.Error("beyond the quota")
	}
	done(t, d.Remove("a"), d.Append("b", []byte("4567890")))
}

// 4.3, Copy.

func TestACopyGoesOnByItself(t *testing.T) {
	d := New(20)
	done(t, d.Create("a"), d.Append("a", []byte("xyz")), d.SyncDir(), d.Create("b"), d.Append("a", []byte("1")))
	c := d.Copy()
	counted(t, c, 5)
	holds(t, c, "a=xyz1 b=")
	done(t, c.Append("a", []byte("C")), d.Append("a", []byte("D")), c.Rename("a", "c"), d.Remove("b"), c.Sync("c"))
	holds(t, c, "b= c=xyz1C")
	holds(t, d, "a=xyz1D")
	counted(t, c, 8)
	counted(t, d, 7)
	crashes(t, c, "c=xyz1C", 1, 0)
	crashes(t, d, "a=xyz1 b=", 4, 0, 1)
	done(t, c.SyncDir())
	crashes(t, c, "b= c=xyz1C", 1, 1)
	crashes(t, d, "a=xyz1", 4, 0, 0)
	c.Crash(nil)
	c.Stop(0)
	d.Fail(1)
	if d.Dead() || !c.Dead() || c.Copy().SyncDir() == 0 || c.Copy().Copy().Dead() != true {
		t.Error("Stop")
	}
	e := d.Copy()
	if d.SyncDir() == 0 || e.SyncDir() == 0 {
		t.Error("Fail")
	}
	done(t, d.SyncDir(), e.SyncDir())
}

func TestACopyNotesItsOwnChanges(t *testing.T) {
	d := New(20)
	for _, name := range []string{"a", "b", "c", "d", "e"} {
		done(t, d.Create(name))
		c := d.Copy()
		done(t, d.Rename(name, "x"), c.Remove(name), d.Rename("x", name))
		crashes(t, c, told(c))
		crashes(t, d, told(d))
	}
}

func TestACopyHasWhatWasSet(t *testing.T) {
	d := New(3)
	d.Stop(3)
	done(t, d.Create("a"))
	c := d.Copy()
	done(t, c.Append("a", []byte("xyz")))
	if e := c.Append("a", []byte("x")); e != 15 || !c.Dead() || d.Dead() {
		t.Error(e)
	}
	done(t, d.Create("b"), d.Create("c"))
	if !d.Dead() {
		t.Error("lives")
	}
}
