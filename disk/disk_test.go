package disk

import (
	"bytes"
	"fmt"
	"math"
	"slices"
	"strings"
	"testing"
	"unsafe"

	"clepsydra/api"
)

// told answers all that a Disk's files tell, in one line.
func told(d *Disk) string {
	var l []string
	for _, name := range d.List() {
		b, _ := d.Read(name)
		l = append(l, name+"="+string(b))
	}
	return strings.Join(l, " ")
}

func expect(t *testing.T, what string, got, want api.Errno) {
	t.Helper()
	if got != want {
		t.Errorf("%s: %d, not %d", what, got, want)
	}
}

// done asks that each of the calls is answered OK.
func done(t *testing.T, calls ...api.Errno) {
	t.Helper()
	for i, e := range calls {
		expect(t, fmt.Sprint("call ", i), e, api.OK)
	}
}

func holds(t *testing.T, d *Disk, want string) {
	t.Helper()
	if got := told(d); got != want {
		t.Errorf("%q, not %q", got, want)
	}
}

func counted(t *testing.T, d *Disk, want int) {
	t.Helper()
	if got := d.Calls(); got != want {
		t.Errorf("%d calls, not %d", got, want)
	}
}

// calls answers the calls that take one name, or may.
func calls(d *Disk) map[string]func(name string) api.Errno {
	return map[string]func(string) api.Errno{
		"Create":    d.Create,
		"Append":    func(name string) api.Errno { return d.Append(name, []byte("x")) },
		"Read":      func(name string) api.Errno { _, e := d.Read(name); return e },
		"Sync":      d.Sync,
		"Rename":    func(name string) api.Errno { return d.Rename(name, "other") },
		"Rename to": func(name string) api.Errno { return d.Rename("a", name) },
		"Remove":    d.Remove,
	}
}

// wrong answers texts that are no names.
func wrong() []string {
	l := []string{"", strings.Repeat("a", 17), strings.Repeat("a", 1000), "aA", "Aa", "a/b", "a b", "a\x00", "\x00a", "é", "a_b", "a-b", "..\n"}
	for c := range 256 {
		if !strings.Contains("abcdefghijklmnopqrstuvwxyz0123456789.", string([]byte{byte(c)})) {
			l = append(l, string([]byte{byte(c)}), "abc"+string([]byte{byte(c)}), string([]byte{byte(c)})+"abc", "abcdefgh"+string([]byte{byte(c)})+"bcdefg")
		}
	}
	return l
}

// 4.1, names.

func TestNamesThatMayNotBe(t *testing.T) {
	d := New(100)
	done(t, d.Create("a"))
	for _, name := range wrong() {
		for what, call := range calls(d) {
			expect(t, fmt.Sprintf("%s(%q)", what, name), call(name), api.ErrName)
		}
	}
	expect(t, "Rename of wrong names", d.Rename("A", "B"), api.ErrName)
	expect(t, "Rename of none to a wrong name", d.Rename("none", "B"), api.ErrName)
	holds(t, d, "a=")
	counted(t, d, 1)
}

func TestNamesThatMayBe(t *testing.T) {
	l := []string{"a", "z", "0", "9", ".", "..", "abcdefghijklmnop", "qrstuvwxyz.01234", "56789...........", "1234567890123456"}
	d := New(100)
	for _, name := range l {
		done(t, d.Create(name), d.Append(name, []byte("x")), d.Sync(name))
	}
	slices.Sort(l)
	if got := d.List(); !slices.Equal(got, l) {
		t.Error(got)
	}
	for _, name := range l {
		done(t, d.Rename(name, "q"), d.Remove("q"))
	}
	holds(t, d, "")
}

func TestListIsByBytes(t *testing.T) {
	d := New(0)
	want := []string{".", ".a", "0", "1", "10", "2", "a", "a.", "a0", "aa", "b"}
	for _, i := range []int{3, 8, 0, 10, 5, 1, 9, 7, 2, 6, 4} {
		done(t, d.Create(want[i]))
	}
	if got := d.List(); !slices.Equal(got, want) {
		t.Error(got)
	}
}

// 4.1, the calls.

func TestNewHasNothing(t *testing.T) {
	for _, quota := range []int{math.MinInt, -1, 0, 1, math.MaxInt} {
		d := New(quota)
		if d.Used() != 0 || d.Calls() != 0 || len(d.List()) != 0 || d.Dead() {
			t.Error(quota)
		}
	}
}

func TestCallsOfNamesThatAreNotThere(t *testing.T) {
	d := New(100)
	for _, name := range []string{"a", "b.1"} {
		for what, call := range calls(d) {
			if what != "Create" {
				expect(t, what, call(name), api.ErrNone)
			}
		}
	}
	expect(t, "Rename of none to itself", d.Rename("a", "a"), api.ErrNone)
	expect(t, "Append of too much to none", d.Append("a", make([]byte, 250001)), api.ErrNone)
	holds(t, d, "")
}

func TestCreate(t *testing.T) {
	d := New(100)
	done(t, d.Create("a"), d.Append("a", []byte("xyz")))
	expect(t, "Create again", d.Create("a"), api.ErrExists)
	holds(t, d, "a=xyz")
	done(t, d.Remove("a"), d.Create("a"))
	holds(t, d, "a=")
}

func TestSixtyFourNames(t *testing.T) {
	d := New(0)
	for i := range 64 {
		done(t, d.Create(fmt.Sprint("f", i)))
	}
	expect(t, "one more", d.Create("f64"), api.ErrMany)
	expect(t, "one that is there", d.Create("f63"), api.ErrExists)
	done(t, d.Rename("f0", "g"))
	expect(t, "one more behind a Rename", d.Create("f0"), api.ErrMany)
	done(t, d.Rename("f1", "g"), d.Create("f0"))
	expect(t, "one more behind a Rename onto", d.Create("f1"), api.ErrMany)
	done(t, d.Remove("f9"), d.Create("f1"))
	expect(t, "one more behind a Remove", d.Create("f9"), api.ErrMany)
	if len(d.List()) != 64 {
		t.Error(len(d.List()))
	}
}

func TestMoreNamesThanMayBeBehindACrash(t *testing.T) {
	d := New(0)
	for i := range 64 {
		done(t, d.Create(fmt.Sprint("f", i)))
	}
	done(t, d.SyncDir(), d.Remove("f0"), d.Create("g"))
	d.Crash([]int{1, 0})
	if len(d.List()) != 65 {
		t.Fatal(len(d.List()))
	}
	expect(t, "one more", d.Create("h"), api.ErrMany)
	done(t, d.Remove("g"))
	expect(t, "64", d.Create("h"), api.ErrMany)
	done(t, d.Remove("f1"), d.Create("h"))
}

func TestAppendAndRead(t *testing.T) {
	d := New(100)
	done(t, d.Create("a"), d.Create("b"))
	done(t, d.Append("a", []byte("x")), d.Append("b", []byte("123")), d.Append("a", nil), d.Append("a", []byte{}), d.Append("a", []byte("yz")))
	holds(t, d, "a=xyz b=123")
	if d.Used() != 6 {
		t.Error(d.Used())
	}
	if b, e := d.Read("c"); len(b) != 0 || e != api.ErrNone {
		t.Error(b, e)
	}
}

func TestALongFile(t *testing.T) {
	d := New(math.MaxInt)
	done(t, d.Create("a"), d.Create("b"))
	expect(t, "250,001 bytes", d.Append("a", make([]byte, 250001)), api.ErrLong)
	done(t, d.Append("a", make([]byte, 250000)), d.Append("a", nil))
	expect(t, "one byte more", d.Append("a", []byte{1}), api.ErrLong)
	done(t, d.Append("b", make([]byte, 249999)))
	expect(t, "two bytes more", d.Append("b", []byte{1, 2}), api.ErrLong)
	done(t, d.Append("b", []byte{1}))
	if d.Used() != 500000 {
		t.Error(d.Used())
	}
	small := New(10)
	done(t, small.Create("a"))
	expect(t, "too long ahead of too much", small.Append("a", make([]byte, 250001)), api.ErrLong)
	expect(t, "too much", small.Append("a", make([]byte, 250000)), api.ErrFull)
}

func TestQuota(t *testing.T) {
	d := New(10)
	done(t, d.Create("a"), d.Create("b"), d.Append("a", []byte("12345")))
	expect(t, "one byte too small", d.Append("b", []byte("123456")), api.ErrFull)
	holds(t, d, "a=12345 b=")
	done(t, d.Append("b", []byte("12345")), d.Append("b", nil))
	expect(t, "one byte more", d.Append("a", []byte("x")), api.ErrFull)
	holds(t, d, "a=12345 b=12345")
	done(t, d.Rename("a", "b"), d.Append("b", []byte("67890")))
	expect(t, "one byte more", d.Append("b", []byte("x")), api.ErrFull)
	done(t, d.Remove("b"), d.Create("b"), d.Append("b", []byte("1234567890")))
	if d.Used() != 10 {
		t.Error(d.Used())
	}
}

func TestNoQuota(t *testing.T) {
	for _, quota := range []int{math.MinInt, -1, 0} {
		d := New(quota)
		done(t, d.Create("a"), d.Append("a", nil))
		expect(t, "a byte", d.Append("a", []byte("x")), api.ErrFull)
	}
}

func TestRename(t *testing.T) {
	d := New(100)
	done(t, d.Create("a"), d.Append("a", []byte("1")), d.Create("b"), d.Append("b", []byte("22")))
	done(t, d.Rename("a", "a"))
	holds(t, d, "a=1 b=22")
	done(t, d.Rename("a", "c"))
	holds(t, d, "b=22 c=1")
	done(t, d.Rename("b", "c"))
	holds(t, d, "c=22")
	if d.Used() != 2 {
		t.Error(d.Used())
	}
	expect(t, "Rename of what was renamed", d.Rename("a", "d"), api.ErrNone)
	done(t, d.Append("c", []byte("3")))
	holds(t, d, "c=223")
}

func TestRemove(t *testing.T) {
	d := New(100)
	done(t, d.Create("a"), d.Append("a", []byte("1")), d.Create("b"), d.Remove("a"))
	expect(t, "Remove again", d.Remove("a"), api.ErrNone)
	holds(t, d, "b=")
	if d.Used() != 0 {
		t.Error(d.Used())
	}
}

// 4.2

func TestWhatCounts(t *testing.T) {
	d := New(1)
	done(t, d.Create("a"), d.Append("a", []byte("x")), d.Sync("a"), d.Rename("a", "b"), d.Rename("b", "b"), d.SyncDir(), d.Remove("b"))
	counted(t, d, 7)
	d.Create("a")
	d.Create("a")
	d.Append("a", []byte("xx"))
	d.Append("b", nil)
	d.Sync("b")
	d.Rename("b", "a")
	d.Remove("b")
	counted(t, d, 14)
	d.Read("a")
	d.Read("b")
	d.List()
	d.Used()
	d.Calls()
	d.Fail(0)
	d.Stop(-1)
	d.Dead()
	d.Copy()
	d.Crash(nil)
	counted(t, d, 14)
	for _, call := range calls(d) {
		call("A")
	}
	counted(t, d, 14)
	d.Stop(0)
	d.Create("b")
	d.Create("A")
	d.Read("a")
	d.SyncDir()
	counted(t, d, 16)
	d.Crash(nil)
	counted(t, d, 16)
}

// acts answers the calls that count, on a Disk on which each can be done.
func acts(d *Disk) map[string]func() api.Errno {
	return map[string]func() api.Errno{
		"Create":  func() api.Errno { return d.Create("new") },
		"Append":  func() api.Errno { return d.Append("a", []byte("x")) },
		"Sync":    func() api.Errno { return d.Sync("a") },
		"Rename":  func() api.Errno { return d.Rename("a", "b") },
		"Remove":  func() api.Errno { return d.Remove("a") },
		"SyncDir": d.SyncDir,
	}
}

func ready(t *testing.T) *Disk {
	t.Helper()
	d := New(100)
	done(t, d.Create("a"), d.Append("a", []byte("1")), d.SyncDir(), d.Append("a", []byte("2")), d.Create("b"))
	return d
}

func TestStopBehindEachCall(t *testing.T) {
	for what := range acts(New(0)) {
		d, free := ready(t), ready(t)
		d.Stop(1)
		if d.Dead() {
			t.Error(what)
		}
		done(t, acts(d)[what](), acts(free)[what]())
		if !d.Dead() || free.Dead() {
			t.Error(what)
		}
		for _, keep := range [][]int{nil, {0, 1}, {1, 1}, {0, 0, 1}} {
			c, f := d.Copy(), free.Copy()
			c.Crash(keep)
			f.Crash(keep)
			holds(t, c, told(f))
		}
	}
}

func TestADeadDiskAnswersNothing(t *testing.T) {
	d := ready(t)
	before := d.Copy()
	d.Stop(0)
	n := d.Calls()
	for what, act := range acts(d) {
		expect(t, what, act(), api.ErrDead)
		n++
		counted(t, d, n)
	}
	for what, call := range calls(d) {
		expect(t, what, call("a"), api.ErrDead)
		expect(t, what, call("none"), api.ErrDead)
		expect(t, what, call("A"), api.ErrName)
	}
	expect(t, "too much", d.Append("a", make([]byte, 300000)), api.ErrDead)
	if b, e := d.Read("a"); len(b) != 0 || e != api.ErrDead {
		t.Error(b, e)
	}
	if !d.Dead() || len(d.List()) != 0 || d.Used() != 0 {
		t.Error(d.List(), d.Used())
	}
	d.Crash(nil)
	holds(t, d, told(before))
	if d.Dead() || d.Used() != 2 {
		t.Error(d.Used())
	}
}

func TestStop(t *testing.T) {
	for n := range 5 {
		d := New(100)
		d.Stop(n)
		for i := range n {
			if d.Dead() {
				t.Error(n, i)
			}
			d.Create("A")
			d.Read("a")
			d.List()
			done(t, d.SyncDir())
		}
		if !d.Dead() {
			t.Error(n)
		}
		expect(t, "dead", d.SyncDir(), api.ErrDead)
	}
}

func TestStopCountsWhatFails(t *testing.T) {
	d := New(100)
	d.Stop(2)
	expect(t, "none", d.Remove("a"), api.ErrNone)
	expect(t, "none", d.Sync("a"), api.ErrNone)
	expect(t, "dead", d.Sync("a"), api.ErrDead)
}

func TestStopTakesAnElderStopsPlace(t *testing.T) {
	d := New(100)
	d.Stop(1)
	d.Stop(3)
	done(t, d.SyncDir(), d.SyncDir())
	for _, n := range []int{-1, math.MinInt, math.MaxInt} {
		d.Stop(1)
		d.Stop(n)
		done(t, d.SyncDir(), d.SyncDir(), d.SyncDir())
	}
	d.Stop(5)
	d.Stop(1)
	done(t, d.SyncDir())
	if !d.Dead() {
		t.Error("lives")
	}
}

func TestDeadItStaysTillACrash(t *testing.T) {
	for _, n := range []int{math.MinInt, -1, 0, 1, 5, math.MaxInt} {
		d := New(100)
		d.Stop(0)
		d.Stop(n)
		expect(t, "Stop", d.SyncDir(), api.ErrDead)
		expect(t, "Stop", d.SyncDir(), api.ErrDead)
		d.Fail(n)
		expect(t, "Fail", d.SyncDir(), api.ErrDead)
		expect(t, "of a Copy", d.Copy().SyncDir(), api.ErrDead)
		if !d.Dead() {
			t.Error(n)
		}
		d.Crash(nil)
		for range 6 {
			done(t, d.SyncDir())
		}
	}
}

func TestFailOfEachCall(t *testing.T) {
	for what := range acts(New(0)) {
		d := ready(t)
		before, n := d.Copy(), d.Calls()
		d.Fail(1)
		expect(t, what, acts(d)[what](), api.ErrFull)
		counted(t, d, n+1)
		for _, keep := range [][]int{nil, {0}, {1}, {0, 1}} {
			c, b := d.Copy(), before.Copy()
			c.Crash(keep)
			b.Crash(keep)
			holds(t, c, told(b))
		}
		holds(t, d, told(before))
		done(t, acts(d)[what]())
	}
}

func TestFail(t *testing.T) {
	for n := 1; n < 5; n++ {
		d := New(100)
		d.Fail(n)
		for range n - 1 {
			done(t, d.SyncDir())
			d.Create("A")
			d.Read("a")
		}
		expect(t, "n-th", d.SyncDir(), api.ErrFull)
		done(t, d.SyncDir(), d.SyncDir(), d.SyncDir(), d.SyncDir(), d.SyncDir())
	}
}

func TestFailComesAheadOfOtherErrors(t *testing.T) {
	d := New(100)
	done(t, d.Create("a"))
	for what, call := range calls(d) {
		if what == "Read" {
			continue
		}
		d.Fail(1)
		expect(t, what, call("A"), api.ErrName)
		if what == "Create" {
			expect(t, what, call("a"), api.ErrFull)
		} else if what != "Rename to" {
			expect(t, what, call("none"), api.ErrFull)
		}
	}
	d.Fail(1)
	expect(t, "too long", d.Append("a", make([]byte, 300000)), api.ErrFull)
	expect(t, "too long", d.Append("a", make([]byte, 300000)), api.ErrLong)
	d.Fail(2)
	expect(t, "there", d.Create("a"), api.ErrExists)
	expect(t, "what is refused counts", d.SyncDir(), api.ErrFull)
}

func TestFailTakesAnElderFailsPlace(t *testing.T) {
	d := New(100)
	d.Fail(1)
	d.Fail(2)
	done(t, d.SyncDir())
	expect(t, "later", d.SyncDir(), api.ErrFull)
	d.Fail(2)
	d.Fail(1)
	expect(t, "sooner", d.SyncDir(), api.ErrFull)
	done(t, d.SyncDir())
	for _, n := range []int{0, -1, math.MinInt, math.MaxInt} {
		d.Fail(1)
		d.Fail(n)
		done(t, d.SyncDir(), d.SyncDir())
	}
}

func TestStopAndFailTogether(t *testing.T) {
	d := New(100)
	d.Stop(2)
	d.Fail(2)
	done(t, d.Create("a"))
	expect(t, "the last", d.Create("b"), api.ErrFull)
	if !d.Dead() {
		t.Error("lives")
	}
	d.Crash(nil)
	holds(t, d, "a=")
	d.Stop(1)
	d.Fail(2)
	done(t, d.SyncDir())
	expect(t, "dead ahead of full", d.SyncDir(), api.ErrDead)
}

func TestCrashTakesStopAndFailAway(t *testing.T) {
	d := New(100)
	d.Stop(2)
	d.Fail(1)
	d.Crash(nil)
	done(t, d.SyncDir(), d.SyncDir(), d.SyncDir())
	d.Stop(0)
	d.Fail(1)
	d.Crash(nil)
	done(t, d.SyncDir(), d.SyncDir(), d.SyncDir())
}

// 4.5

func TestNothingIsKeptAndAllIsNew(t *testing.T) {
	d := New(100)
	all := []byte("xyz, and room behind it")
	was := bytes.Clone(all)
	done(t, d.Create("a"), d.Append("a", all[:3]), d.Append("a", all[:3]), d.Create("b"))
	if !bytes.Equal(all, was) {
		t.Errorf("%q", all)
	}
	all[0] = '!'
	holds(t, d, "a=xyzxyz b=")
	one, _ := d.Read("a")
	one[0] = '!'
	_ = append(one[:1], "?????????????????????"...)
	two, _ := d.Read("a")
	_ = append(two, "??????"...)
	done(t, d.Append("a", []byte("1")))
	if two = append(two, '?'); string(two) != "xyzxyz?" {
		t.Errorf("%q", two)
	}
	l := d.List()
	l[0], l[1] = "q", "r"
	_ = append(l[:1], "s", "t")
	holds(t, d, "a=xyzxyz1 b=")
	keep := []int{1, 1, 0, 5, 5}
	d.Crash(keep[:2])
	if !slices.Equal(keep, []int{1, 1, 0, 5, 5}) {
		t.Error(keep)
	}
}

func TestNamesAreNotKeptNorLent(t *testing.T) {
	d := New(100)
	buf := []byte("abc")
	name := func(i int) string { return unsafe.String(&buf[i], 1) }
	done(t, d.Create(name(0)), d.Create(name(1)), d.Rename(name(1), name(2)), d.SyncDir(), d.Remove(name(0)))
	copy(buf, "xyz")
	holds(t, d, "c=")
	crashes(t, d, "c=", 0)
	crashes(t, d, "a= c=", 1)
	if unsafe.StringData(d.List()[0]) == unsafe.StringData(d.List()[0]) {
		t.Error("one memory, told twice")
	}
}

func TestNoFileIsKeptThatCannotComeBack(t *testing.T) {
	d := New(100)
	for range 10 {
		done(t, d.Create("a"), d.Append("a", []byte("x")), d.Remove("a"), d.Create("b"), d.Rename("b", "c"), d.SyncDir())
		if len(d.files) != 1 || len(d.since) != 0 || len(d.Copy().files) != 1 {
			t.Fatal(len(d.files))
		}
	}
	done(t, d.Create("a"), d.Create("b"), d.Remove("b"))
	d.Crash([]int{1, 0, 0})
	if len(d.files) != 1 || len(d.since) != 0 {
		t.Error(len(d.files))
	}
}

func FuzzNoCallPanics(f *testing.F) {
	f.Add(int64(10), []byte("\x00a\x01axyz\x04ab\x06"), "a", int64(3))
	f.Add(int64(-1), []byte{0, 1, 2, 3, 4, 5, 6, 7, 8, 9, 10, 11, 12, 13, 14}, "", int64(math.MinInt64))
	f.Fuzz(func(t *testing.T, quota int64, script []byte, name string, n int64) {
		d, m := New(int(quota)), newModel(int(quota))
		d.Create(name)
		m.create(name)
		for len(script) > 0 {
			step(t, &d, &m, func() int {
				if len(script) == 0 {
					return int(n)
				}
				k := int(script[0])
				script = script[1:]
				return k
			})
		}
		d.Crash([]int{int(n)})
		m.crash([]int{int(n)})
		same(t, d, m)
	})
}
