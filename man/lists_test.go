package man

import (
	"maps"
	"math"
	"math/rand/v2"
	"slices"
	"strconv"
	"testing"

	"clepsydra/api"
	"clepsydra/disk"
	"clepsydra/edit"
	"clepsydra/frame"
	"clepsydra/num"
)

const (
	topNum     = 1 << 30
	topVersion = 1 << 48
)

func file(level, num int) api.File { return api.File{Level: level, Num: num} }

func row(l ...api.File) []api.File { return l }

// files answers n Files with the Nums from 1 on, of all Levels.
func files(n int) []api.File {
	l := make([]api.File, n)
	for i := range l {
		l[i] = file(i%4, i+1)
	}
	return l
}

// nums answers the Nums from 1 to n.
func nums(n int) []int {
	l := make([]int, n)
	for i := range l {
		l[i] = i + 1
	}
	return l
}

// view answers one with three Files, in which each number is another.
func view() api.View {
	return api.View{Log: 9, Files: row(file(3, 4), file(0, 300), file(1, 2)), Floor: 11, Cert: 12, At: 13, Lease: 14}
}

// views answers Views that are Ok, some of them at their bounds.
func views() []api.View {
	return []api.View{
		view(), {Log: 1}, {Log: topNum}, {Log: 3, Files: row(file(3, topNum), file(0, 1))},
		{Log: topNum, Files: files(40), Floor: topVersion, Cert: topVersion, At: topVersion, Lease: topVersion},
	}
}

// wrongViews answers Views that are not Ok.
func wrongViews() []api.View {
	l := []api.View{
		{}, {Files: files(1)}, {Log: -1}, {Log: topNum + 1}, {Log: math.MinInt}, {Log: math.MaxInt},
		{Log: 1, Files: files(41)}, {Log: 1, Files: files(10000)}, {Log: 1, Files: row(file(0, 2), file(1, 2))},
		{Log: 1, Floor: topVersion + 1}, {Log: 1, Cert: topVersion + 1}, {Log: 1, At: topVersion + 1}, {Log: 1, Lease: math.MaxUint64},
	}
	for _, f := range row(file(-1, 1), file(4, 1), file(0, 0), file(0, -1), file(0, topNum+1), file(math.MaxInt, math.MinInt)) {
		l = append(l, api.View{Log: 1, Files: row(f)}, api.View{Log: 1, Files: row(file(0, 3), f)})
	}
	return l
}

// story answers Edits each of which may be Applied behind those ahead of it, and
// the Views that they make: the first one is that of none.
func story() ([]api.Edit, []api.View) {
	edits := []api.Edit{
		{Floor: 5},
		{Add: row(file(0, 3), file(0, topNum))},
		{Drop: []int{2, 3}, Add: row(file(1, 4)), Log: 6, Cert: topVersion},
		{},
		{Drop: []int{4}, Add: row(file(2, 4)), At: 9, Lease: 300},
	}
	three := row(file(0, topNum), file(1, 4))
	return edits, []api.View{
		{Log: 1, Files: row(file(0, 2)), Lease: 7},
		{Log: 1, Files: row(file(0, 2)), Floor: 5, Lease: 7},
		{Log: 1, Files: row(file(0, 2), file(0, 3), file(0, topNum)), Floor: 5, Lease: 7},
		{Log: 6, Files: three, Floor: 5, Cert: topVersion, Lease: 7},
		{Log: 6, Files: three, Floor: 5, Cert: topVersion, Lease: 7},
		{Log: 6, Files: row(file(0, topNum), file(2, 4)), Floor: 5, Cert: topVersion, At: 9, Lease: 300},
	}
}

// refusedByPut answers Edits that edit.Put refuses.
func refusedByPut() []api.Edit {
	return []api.Edit{
		{Log: -1}, {Log: topNum + 1}, {Log: math.MinInt}, {Drop: []int{0}}, {Drop: []int{topNum + 1}}, {Drop: nums(41)}, {Drop: nums(20000)},
		{Add: row(file(4, 9))}, {Add: row(file(-1, 9))}, {Add: row(file(0, 0))}, {Add: files(41)}, {Add: files(20000)},
		{Floor: topVersion + 1}, {Cert: topVersion + 1}, {At: math.MaxUint64}, {Lease: topVersion + 1},
	}
}

// refusedByApply answers Edits that edit.Put takes, but that may not be Applied to
// a View that has one of these Nums and neither 77 nor 99.
func refusedByApply(there ...int) []api.Edit {
	l := []api.Edit{
		{Drop: []int{99}}, {Drop: []int{99}, Add: row(file(0, 99))}, {Add: row(file(0, 77), file(1, 77))}, {Drop: slices.Repeat([]int{99}, 40)},
	}
	for _, n := range there {
		l = append(l, api.Edit{Add: row(file(0, n))}, api.Edit{Drop: []int{n, n}}, api.Edit{Drop: []int{n, 99}, Floor: 1})
	}
	return l
}

// currentOf answers the bytes of current that 16.1 tells.
func currentOf(n uint64) []byte {
	return framed(8, num.Put(nil, n))
}

func framed(kind int, body []byte) []byte {
	b, _ := frame.Put(nil, kind, body)
	return b
}

// written answers the bytes of the frames of these Edits.
func written(l ...api.Edit) []byte {
	var b []byte
	for _, e := range l {
		b, _ = edit.Put(b, e)
	}
	return b
}

func turn(b []byte, bit int) {
	b[bit/8] ^= 1 << (bit % 8)
}

// text answers n bytes, the same at each run.
func text(n int) []byte {
	r := rand.New(rand.NewPCG(uint64(n), 16))
	b := make([]byte, n)
	for i := range b {
		b[i] = byte(r.Uint32())
	}
	return b
}

func done(t *testing.T, l ...api.Errno) {
	t.Helper()
	for i, e := range l {
		if e != api.OK {
			t.Fatalf("call %d is %v", i, e)
		}
	}
}

func expect(t *testing.T, why string, got, want api.Errno) {
	t.Helper()
	if got != want {
		t.Fatalf("%s: %v, not %v", why, got, want)
	}
}

// Disks.

// put makes a file of these bytes, in the place of one that is there.
func put(t *testing.T, d *disk.Disk, name string, b []byte) {
	t.Helper()
	if slices.Contains(d.List(), name) {
		done(t, d.Remove(name))
	}
	done(t, d.Create(name), d.Append(name, b), d.Sync(name))
}

// diskOf answers a Disk of these files, name and bytes by turns, that last.
func diskOf(t *testing.T, l ...any) *disk.Disk {
	t.Helper()
	d := disk.New(1 << 20)
	for i := 0; i < len(l); i += 2 {
		put(t, d, l[i].(string), l[i+1].([]byte))
	}
	done(t, d.SyncDir())
	return d
}

// kept answers the files of a Disk. Of a dead one there are none.
func kept(d *disk.Disk) map[string]string {
	l := map[string]string{}
	for _, name := range d.List() {
		b, _ := d.Read(name)
		l[name] = string(b)
	}
	return l
}

// holds fails where d has other files than these, name and bytes by turns.
func holds(t *testing.T, why string, d *disk.Disk, l ...any) {
	t.Helper()
	want := map[string]string{}
	for i := 0; i < len(l); i += 2 {
		want[l[i].(string)] = string(l[i+1].([]byte))
	}
	if got := kept(d); !maps.Equal(got, want) {
		t.Fatalf("%s: the files are %.200q, not %.200q", why, got, want)
	}
}

// untouched answers a look at whether d is as it is now, and was not called.
func untouched(d *disk.Disk) func() bool {
	calls, was := d.Calls(), kept(d)
	return func() bool { return d.Calls() == calls && maps.Equal(kept(d), was) }
}

// Manifests.

// spare answers l with room behind it, and a look at whether that room or l was
// changed.
func spare[T comparable](l []T, behind T) (own []T, same func() bool) {
	all := append(slices.Clone(l), slices.Repeat([]T{behind}, 50)...)
	was := slices.Clone(all)
	return all[:len(l)], func() bool { return slices.Equal(all, was) }
}

// spoil changes all of l, its spare room too.
func spoil[T any](l []T, by T) {
	for i := range l[:cap(l)] {
		l[:cap(l)][i] = by
	}
}

// made asks New, and fails where it changes what it is given, or tells more than
// an error. It spoils that, so that a Manifest that keeps it tells something else.
func made(t *testing.T, d *disk.Disk, v api.View) (*Manifest, api.Errno) {
	t.Helper()
	in := v
	var same func() bool
	in.Files, same = spare(v.Files, file(2, 77))
	m, e := New(d, in)
	if !same() {
		t.Fatalf("New of %.200v changes what it is given", v)
	}
	spoil(in.Files, file(-8, -8))
	if (e == api.OK) != (m != nil) {
		t.Fatalf("New of %.200v is %v beside %v", v, m, e)
	}
	return m, e
}

// opened asks Open, and fails where it tells more than an error.
func opened(t *testing.T, d *disk.Disk) (*Manifest, api.Errno) {
	t.Helper()
	m, e := Open(d)
	if (e == api.OK) != (m != nil) {
		t.Fatalf("Open of %.200q is %v beside %v", kept(d), m, e)
	}
	return m, e
}

// saved asks Save, likewise as made.
func saved(t *testing.T, m *Manifest, e api.Edit) api.Errno {
	t.Helper()
	in := e
	var sameDrop, sameAdd func() bool
	in.Drop, sameDrop = spare(e.Drop, 78)
	in.Add, sameAdd = spare(e.Add, file(2, 79))
	err := m.Save(in)
	if !sameDrop() || !sameAdd() {
		t.Fatalf("Save of %.200v changes what it is given", e)
	}
	spoil(in.Drop, -9)
	spoil(in.Add, file(-9, -9))
	return err
}

// viewed asks View, and fails where it lends what it tells.
func viewed(t *testing.T, m *Manifest) api.View {
	t.Helper()
	v := m.View()
	was := v
	was.Files = slices.Clone(v.Files)
	spoil(v.Files, file(-7, -7))
	if again := m.View(); !edit.Same(again, was) {
		t.Fatalf("View is %v, then %v", was, again)
	}
	return was
}

// tells fails where m is not of this file with so many Edits, or has another View.
func tells(t *testing.T, why string, m *Manifest, number, count int, v api.View) {
	t.Helper()
	has(t, why, m, number, count, v)
	if m.Broken() {
		t.Fatalf("%s: it is Broken", why)
	}
}

func has(t *testing.T, why string, m *Manifest, number, count int, v api.View) {
	t.Helper()
	name := "man." + strconv.Itoa(number)
	if got := viewed(t, m); !edit.Same(got, v) || m.Name() != name || m.Count() != count {
		t.Fatalf("%s: %s, %d Edits, %v, not %s, %d, %v", why, m.Name(), m.Count(), got, name, count, v)
	}
}

// broken fails likewise, and where m is not Broken: neither Save nor Rewrite does
// anything then, now or later.
func broken(t *testing.T, why string, m *Manifest, d *disk.Disk, number, count int, v api.View) {
	t.Helper()
	same := untouched(d)
	for range 3 {
		has(t, why, m, number, count, v)
		if !m.Broken() {
			t.Fatalf("%s: it is not Broken", why)
		}
		for _, e := range append(refusedByPut(), api.Edit{}, api.Edit{Floor: 1}, api.Edit{Drop: []int{99}}) {
			expect(t, why+", Save", saved(t, m, e), api.ErrReadOnly)
		}
		expect(t, why+", Rewrite", m.Rewrite(), api.ErrReadOnly)
	}
	if !same() {
		t.Fatalf("%s: the disk was called", why)
	}
}

// started answers the Manifest of the story's first View, and its Disk.
func started(t *testing.T, quota int) (*Manifest, *disk.Disk) {
	t.Helper()
	_, views := story()
	d := disk.New(quota)
	m, e := made(t, d, views[0])
	done(t, e)
	return m, d
}

// losses answers lists for Crash: one by which all is kept, and some by which the
// bytes of so many files, and all changes of names, are lost.
func losses() [][]int {
	ones := slices.Repeat([]int{1}, 100)
	return [][]int{nil, ones, append([]int{0}, ones...), append([]int{0, 0}, ones...)}
}

// reopens fails where Open of d, as it is now and whatever is lost of it, tells
// other than this.
func reopens(t *testing.T, why string, d *disk.Disk, number, count int, v api.View) {
	t.Helper()
	opens(t, why, d.Copy(), number, count, v)
	for _, keep := range losses() {
		c := d.Copy()
		c.Crash(keep)
		opens(t, why+", crashed", c, number, count, v)
	}
}

func opens(t *testing.T, why string, d *disk.Disk, number, count int, v api.View) *Manifest {
	t.Helper()
	m, e := opened(t, d)
	expect(t, why+", Open", e, api.OK)
	tells(t, why+", opened", m, number, count, v)
	return m
}
