package edit

import (
	"math"
	"slices"
	"testing"

	"clepsydra/api"
)

// 15.1: Ok

func TestOkOfLogs(t *testing.T) {
	for n, want := range map[int]bool{
		0: false, 1: true, 2: true, topNum - 1: true, topNum: true, topNum + 1: false,
		-1: false, math.MinInt: false, math.MaxInt: false, 1 << 31: false, 1<<32 + 1: false,
	} {
		ok(t, "alone", api.View{Log: n}, want)
		v := view()
		v.Log = n
		ok(t, "with Files", v, want)
	}
	ok(t, "the empty one", api.View{}, false)
}

func TestOkOfHowManyFiles(t *testing.T) {
	for n, want := range map[int]bool{0: true, 1: true, 39: true, 40: true, 41: false, 42: false, 100000: false} {
		ok(t, "Files", api.View{Log: 1, Files: files(n)}, want)
		l := files(n)
		slices.Reverse(l)
		ok(t, "in another order", api.View{Log: 1, Files: l}, want)
	}
	ok(t, "no list", api.View{Log: 1, Files: []api.File{}}, true)
}

func TestOkOfFiles(t *testing.T) {
	at := func(f api.File, want bool) {
		t.Helper()
		for _, place := range []int{0, 1, 20, 39} {
			l := files(40)
			for i := range l {
				l[i].Num += 100
			}
			l[place] = f
			ok(t, "one of many", api.View{Log: 1, Files: l}, want)
		}
		ok(t, "it alone", api.View{Log: 1, Files: row(f)}, want)
	}
	for n, want := range map[int]bool{-1: false, 0: true, 1: true, 2: true, 3: true, 4: false, 256: false, math.MinInt: false, math.MaxInt: false} {
		at(file(n, 7), want)
	}
	for n, want := range map[int]bool{
		0: false, 1: true, 2: true, topNum - 1: true, topNum: true, topNum + 1: false,
		-1: false, math.MinInt: false, math.MaxInt: false, 1<<32 + 1: false,
	} {
		at(file(0, n), want)
		at(file(3, n), want)
	}
}

func TestOkOfOneNumTwice(t *testing.T) {
	for i := range 40 {
		for k := range i {
			l := files(40)
			l[i].Num = l[k].Num
			ok(t, "twice", api.View{Log: 1, Files: l}, false)
			l[i].Level = l[k].Level
			ok(t, "twice the same", api.View{Log: 1, Files: l}, false)
		}
	}
	ok(t, "just two", api.View{Log: 1, Files: row(file(0, 2), file(1, 2))}, false)
	ok(t, "Log and a File", api.View{Log: 2, Files: row(file(0, 2))}, true)
	ok(t, "one Level twice", api.View{Log: 1, Files: row(file(2, 1), file(2, 3), file(2, 2))}, true)
}

func TestOkOfTheOtherNumbers(t *testing.T) {
	ok(t, "all at their bound", api.View{Log: topNum, Files: files(40), Floor: topVersion, Cert: topVersion, At: topVersion, Lease: topVersion}, true)
	for _, which := range four {
		for n, want := range map[uint64]bool{0: true, 1: true, topVersion - 1: true, topVersion: true, topVersion + 1: false, 1 << 63: false, math.MaxUint64: false} {
			ok(t, which, viewWith(which, n), want)
		}
	}
}

// 15.1: Apply

func TestTheExample(t *testing.T) {
	v, ok := applied(t, api.View{}, api.Edit{Log: 1, Add: row(file(0, 2))})
	if !ok {
		t.Fatal("the first Edit")
	}
	makes(t, "the second Edit", v, api.Edit{Drop: []int{2}}, api.View{Log: 1})
	replays(t, "both", written(api.Edit{Log: 1, Add: row(file(0, 2))}, api.Edit{Drop: []int{2}}), api.View{Log: 1}, 41)
}

func withFiles(l ...api.File) api.View {
	v := view()
	v.Files = l
	return v
}

func TestApplyDrops(t *testing.T) {
	v := view()
	a, b, c := v.Files[0], v.Files[1], v.Files[2]
	makes(t, "the first", v, api.Edit{Drop: []int{a.Num}}, withFiles(b, c))
	makes(t, "a middle one", v, api.Edit{Drop: []int{b.Num}}, withFiles(a, c))
	makes(t, "the last", v, api.Edit{Drop: []int{c.Num}}, withFiles(a, b))
	makes(t, "two", v, api.Edit{Drop: []int{a.Num, c.Num}}, withFiles(b))
	makes(t, "two, the other way round", v, api.Edit{Drop: []int{c.Num, a.Num}}, withFiles(b))
	makes(t, "all", v, api.Edit{Drop: []int{b.Num, c.Num, a.Num}}, withFiles())
	makes(t, "none", v, api.Edit{}, v)
	makes(t, "no list", v, api.Edit{Drop: []int{}, Add: row()}, v)
	makes(t, "forty", api.View{Log: 1, Files: files(40)}, api.Edit{Drop: nums(40)}, api.View{Log: 1})
	for _, n := range []int{0, 1, 3, 5, 299, 301, -2, topNum, math.MinInt, math.MaxInt} {
		refused(t, "one that is not there", v, api.Edit{Drop: []int{n}})
		refused(t, "behind one that is", v, api.Edit{Drop: []int{b.Num, n}})
		refused(t, "ahead of one that is", v, api.Edit{Drop: []int{n, b.Num}})
		refused(t, "that the Edit adds", v, api.Edit{Drop: []int{n}, Add: row(file(0, n))})
	}
	for _, f := range v.Files {
		refused(t, "twice", v, api.Edit{Drop: []int{f.Num, f.Num}})
		refused(t, "twice, with others between", v, api.Edit{Drop: []int{a.Num, b.Num, c.Num, f.Num}})
		refused(t, "twice, and added", v, api.Edit{Drop: []int{f.Num, f.Num}, Add: row(f)})
	}
	refused(t, "of no Files", api.View{Log: 1}, api.Edit{Drop: []int{1}})
	refused(t, "more than there are", api.View{Log: 1, Files: files(40)}, api.Edit{Drop: nums(41)})
}

func TestApplyAdds(t *testing.T) {
	v := view()
	a, b, c := v.Files[0], v.Files[1], v.Files[2]
	makes(t, "one", v, api.Edit{Add: row(file(0, 1))}, withFiles(a, b, c, file(0, 1)))
	makes(t, "several, in order", v, api.Edit{Add: row(file(3, 9), file(0, topNum), file(1, 1))}, withFiles(a, b, c, file(3, 9), file(0, topNum), file(1, 1)))
	makes(t, "the other way round", v, api.Edit{Add: row(file(1, 1), file(0, topNum), file(3, 9))}, withFiles(a, b, c, file(1, 1), file(0, topNum), file(3, 9)))
	makes(t, "one that goes", v, api.Edit{Drop: []int{a.Num}, Add: row(file(2, a.Num))}, withFiles(b, c, file(2, a.Num)))
	makes(t, "the very one that goes", v, api.Edit{Drop: []int{a.Num}, Add: row(a)}, withFiles(b, c, a))
	makes(t, "all that go", v, api.Edit{Drop: []int{a.Num, b.Num, c.Num}, Add: row(c, b, a)}, withFiles(c, b, a))
	makes(t, "instead of others", v, api.Edit{Drop: []int{b.Num}, Add: row(file(1, 7), file(2, 8))}, withFiles(a, c, file(1, 7), file(2, 8)))
	for _, f := range v.Files {
		refused(t, "one that is there", v, api.Edit{Add: row(f)})
		refused(t, "its Num in another Level", v, api.Edit{Add: row(file((f.Level+1)%4, f.Num))})
		refused(t, "and another that goes", v, api.Edit{Drop: []int{v.Files[0].Num}, Add: row(v.Files[0], v.Files[0])})
	}
	refused(t, "one twice", v, api.Edit{Add: row(file(0, 1), file(1, 1))})
	for _, f := range []api.File{file(-1, 1), file(4, 1), file(0, 0), file(0, -1), file(0, topNum+1), file(math.MaxInt, math.MaxInt), file(math.MinInt, math.MinInt), {}} {
		refused(t, "one that may not be", v, api.Edit{Add: row(f)})
		refused(t, "one among others", v, api.Edit{Add: row(file(0, 1), f, file(0, 3))})
	}
}

func TestApplyAddsUpToForty(t *testing.T) {
	for there := range 42 {
		for more := range 43 {
			v := api.View{Log: 1, Files: files(there)}
			e := api.Edit{Add: files(there + more)[there:]}
			if there+more <= 40 {
				makes(t, "so many", v, e, api.View{Log: 1, Files: files(there + more)})
				continue
			}
			refused(t, "too many", v, e)
			over := there + more - 40
			if over <= there {
				e.Drop = nums(over)
				makes(t, "as many go", v, e, api.View{Log: 1, Files: files(there + more)[over:]})
				e.Drop = nums(over - 1)
				refused(t, "one too few goes", v, e)
			}
		}
	}
}

func TestApplySetsWhatIsNotNothing(t *testing.T) {
	for _, v := range []api.View{view(), {Log: 1}, {Log: topNum, Floor: topVersion, Cert: topVersion, At: topVersion, Lease: topVersion}} {
		makes(t, "all stay", v, api.Edit{}, v)
		for _, n := range []int{1, 2, topNum} {
			w := v
			w.Log = n
			makes(t, "Log", v, api.Edit{Log: n}, w)
		}
		for _, n := range []int{-1, topNum + 1, math.MinInt, math.MaxInt} {
			refused(t, "Log", v, api.Edit{Log: n})
		}
		for _, n := range []uint64{1, 2, 21, topVersion} {
			floor, cert, at, lease := v, v, v, v
			floor.Floor, cert.Cert, at.At, lease.Lease = n, n, n, n
			makes(t, "Floor", v, api.Edit{Floor: n}, floor)
			makes(t, "Cert", v, api.Edit{Cert: n}, cert)
			makes(t, "At", v, api.Edit{At: n}, at)
			makes(t, "Lease", v, api.Edit{Lease: n}, lease)
		}
		for _, which := range four {
			refused(t, which, v, editWith(which, topVersion+1))
			refused(t, which, v, editWith(which, math.MaxUint64))
		}
		all := api.View{Log: 5, Files: v.Files, Floor: 1, Cert: 2, At: 3, Lease: 4}
		makes(t, "all of them", v, api.Edit{Log: 5, Floor: 1, Cert: 2, At: 3, Lease: 4}, all)
	}
}

func TestApplyToViewsThatMayNotBe(t *testing.T) {
	refused(t, "the empty one", api.View{}, api.Edit{})
	refused(t, "without a Log", api.View{}, api.Edit{Add: files(2), Floor: 1, Cert: 2, At: 3, Lease: 4})
	makes(t, "a Log", api.View{}, api.Edit{Log: 1}, api.View{Log: 1})
	makes(t, "another Log", api.View{Log: -1}, api.Edit{Log: 1}, api.View{Log: 1})
	refused(t, "as it was", api.View{Log: -1}, api.Edit{Floor: 1})
	for _, which := range four {
		refused(t, which, viewWith(which, topVersion+1), api.Edit{Log: 1})
		makes(t, which, viewWith(which, math.MaxUint64), editWith(which, 7), viewWith(which, 7))
	}
	makes(t, "one too many", api.View{Log: 1, Files: files(41)}, api.Edit{Drop: []int{41}}, api.View{Log: 1, Files: files(40)})
	refused(t, "two too many", api.View{Log: 1, Files: files(42)}, api.Edit{Drop: []int{41}})
	makes(t, "a File that may not be", withFiles(file(9, -5), file(1, 1)), api.Edit{Drop: []int{-5}}, withFiles(file(1, 1)))
	refused(t, "it stays", withFiles(file(9, -5), file(1, 1)), api.Edit{Drop: []int{1}})
	refused(t, "one Num twice", withFiles(file(0, 1), file(1, 1)), api.Edit{})
	makes(t, "both go", withFiles(file(0, 1), file(2, 2), file(1, 1)), api.Edit{Drop: []int{1}}, withFiles(file(2, 2)))
	makes(t, "very many", api.View{Log: 1, Files: files(100000)}, api.Edit{Drop: nums(99999)}, api.View{Log: 1, Files: files(100000)[99999:]})
	refused(t, "very many", api.View{Log: 1, Files: files(100000)}, api.Edit{Drop: nums(100001)})
	refused(t, "very many", view(), api.Edit{Drop: nums(100000), Add: files(100000)})
}

// 15.1: Whole

func TestWhole(t *testing.T) {
	for _, v := range []api.View{
		view(), {Log: 1}, {Log: topNum}, {Log: 1, Files: files(40)}, {Log: 3, Files: row(file(3, topNum), file(0, 1))},
		{Log: topNum, Files: files(40), Floor: topVersion, Cert: topVersion, At: topVersion, Lease: topVersion},
	} {
		e := wholed(t, v)
		if want := (api.Edit{Add: v.Files, Log: v.Log, Floor: v.Floor, Cert: v.Cert, At: v.At, Lease: v.Lease}); !sameEdit(e, want) {
			t.Errorf("Whole of %v is %v", v, e)
		}
		makes(t, "of nothing", api.View{}, e, v)
		b, err := put(t, nil, e)
		if err != api.OK {
			t.Errorf("Put of Whole of %v is %v", v, err)
		}
		replays(t, "Whole", b, v, len(b))
	}
	for _, v := range []api.View{{}, {Log: -1}, {Floor: 3}, {Log: 1, Files: files(41)}, viewWith("At", topVersion+1), withFiles(file(0, 1), file(0, 1)), withFiles(file(4, 1))} {
		refused(t, "of one that may not be", api.View{}, wholed(t, v))
	}
}

// 15.2: Same

func TestSame(t *testing.T) {
	views := []api.View{view(), {}, {Log: 1}, {Log: 9}, withFiles()}
	for _, which := range four {
		views = append(views, viewWith(which, 0), viewWith(which, 15), viewWith(which, math.MaxUint64))
	}
	l := view().Files
	a, b, c := l[0], l[1], l[2]
	for _, other := range [][]api.File{
		{a}, {a, b}, {b, c}, {a, b, c, c}, {a, b, c, {}}, {a, c, b}, {b, a, c}, {c, b, a}, {b, c, a}, {c, a, b},
		{a, b, file(c.Level+1, c.Num)}, {a, b, file(c.Level, c.Num+1)}, {file(0, a.Num), b, c}, {a, file(b.Level, 301), c}, files(40), files(41),
	} {
		views = append(views, withFiles(other...))
	}
	v := view()
	v.Log = 10
	views = append(views, v, api.View{Files: l})
	// Numbers in one another's place.
	views = append(views, api.View{Log: 1, Floor: 5}, api.View{Log: 1, Cert: 5}, api.View{Log: 1, At: 5}, api.View{Log: 1, Lease: 5})
	for i, v := range views {
		for k, w := range views {
			if sames(t, v, w) != (i == k) {
				t.Errorf("Same of %v and %v is %v", v, w, i != k)
			}
		}
	}
	if !sames(t, api.View{Log: 1}, api.View{Log: 1, Files: []api.File{}}) {
		t.Error("nil and an empty list are told apart")
	}
}
