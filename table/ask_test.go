package table

import (
	"math"
	"slices"
	"sync"
	"testing"

	"clepsydra/api"
)

// 12.1, what is asked of a Table

func TestOfNone(t *testing.T) {
	for _, l := range [][]api.Item{nil, {}} {
		b, _ := Make(l)
		x, e := read(t, b)
		if e != api.OK {
			t.Fatal(e)
		}
		holds(t, "none", x, nil)
		for _, y := range append(around(tomb(3, 5)), far()...) {
			if got, ok := get(t, x, y); ok || x.May(y) {
				t.Errorf("of none, Get of %v is %v", y, got)
			}
			for _, z := range append(around(sample(3, 5, 5, 5)), far()...) {
				if got := x.Range(y, z); len(got) != 0 {
					t.Errorf("of none, Range is %v", got)
				}
			}
		}
	}
}

func TestLenFirstAndLast(t *testing.T) {
	for n := range 130 {
		holds(t, "a row", table(t, row(n)...), row(n))
		holds(t, "wide ones", table(t, widest(n)...), widest(n))
	}
	for _, n := range []int{399, 400, 401, 1999, 2000} {
		holds(t, "a long row", table(t, row(n)...), row(n))
	}
	holds(t, "a delete", table(t, tomb(0, 1)), list(tomb(0, 1)))
	holds(t, "the last that may be", table(t, widest(1)...), widest(1))
}

func TestGetOfWhatIsThere(t *testing.T) {
	for _, n := range []int{1, 2, 19, 20, 21, 40, 41, 60, 61, 400, 2000} {
		l := row(n)
		x := table(t, l...)
		for i, y := range l {
			for _, change := range []func(y *api.Item){
				func(y *api.Item) {},
				func(y *api.Item) { y.Version++ },
				func(y *api.Item) { y.Version = 0 },
				func(y *api.Item) { y.Version = math.MaxUint64 },
				func(y *api.Item) { y.Value-- },
				func(y *api.Item) { y.Value = math.MaxInt64; y.Version = 1 },
			} {
				asked := y
				change(&asked)
				if got, ok := get(t, x, asked); got != y || !ok {
					t.Fatalf("of %d, Get of %v, the %d-th, is %v, %v", n, asked, i, got, ok)
				}
				if !x.May(asked) {
					t.Fatalf("of %d, May of %v, the %d-th, is false", n, asked, i)
				}
			}
		}
	}
}

func TestGetOfWhatIsNotThere(t *testing.T) {
	// The blocks end at the times 200, 400 and 600.
	x := table(t, tens(60)...)
	for _, time := range []uint64{0, 1, 9, 11, 15, 19, 21, 195, 199, 201, 205, 209, 211, 399, 401, 405, 409, 591, 599, 601, 1 << 40, 1<<40 + 1, math.MaxUint64} {
		if got, ok := get(t, x, sample(1, time, 1, 1)); ok {
			t.Errorf("Get at %d is %v", time, got)
		}
	}
	for _, y := range append(far(),
		tomb(1, 1), sample(0, 200, 20, -19), sample(2, 200, 20, -19), sample(2, 0, 1, 1), tomb(2, 1),
		api.Item{Series: 1, Time: 200, Version: 20}, api.Item{Series: 1, Kind: 3, Time: 200, Version: 20},
		api.Item{Series: 1, Kind: 1, Time: 200, Version: 20},
		// Their Keys are those of one that is there.
		api.Item{Series: 257, Kind: 2, Time: 200, Version: 20}, api.Item{Series: -255, Kind: 2, Time: 200, Version: 20},
		api.Item{Series: 1, Kind: 258, Time: 200, Version: 20}, api.Item{Series: 1, Kind: -254, Time: 200, Version: 20},
	) {
		if got, ok := get(t, x, y); ok {
			t.Errorf("Get of %v is %v", y, got)
		}
	}
}

func TestGetWithoutAnyOne(t *testing.T) {
	all := row(65)
	for gone := range all {
		x := table(t, slices.Delete(slices.Clone(all), gone, gone+1)...)
		for i, y := range all {
			got, ok := get(t, x, y)
			if ok != (i != gone) || ok && got != y {
				t.Fatalf("without the %d-th Get of the %d-th is %v, %v", gone, i, got, ok)
			}
		}
	}
}

// has tells what 12.1 asks of May, by the words of 10.1.
func has(l []api.Item, x api.Item) bool {
	f := filtered(len(l), 10, l)
	size := max((len(l)*10+7)/8, 8)
	set := f[len(f)-size:]
	for _, bit := range bitsOf(x, 7, 8*size) {
		if set[bit/8]>>(bit%8)&1 == 0 {
			return false
		}
	}
	return true
}

// May of one that is not there is true where the Filter has its Key by chance;
// Get is not led astray by that.
func TestMayIsTheFilters(t *testing.T) {
	for _, n := range []int{1, 5, 20, 21, 60, 400} {
		l := row(n)
		x := table(t, l...)
		chance, there := 0, 0
		for i := range 3000 {
			y := sample(i%12, uint64(i/12), 1, 1)
			may := x.May(y)
			if may != has(l, y) {
				t.Fatalf("of %d, May of %v is %v", n, y, may)
			}
			got, ok := get(t, x, y)
			if want := slices.ContainsFunc(l, func(z api.Item) bool { return plainSame(y, z) }); ok != want {
				t.Fatalf("of %d, Get of %v is %v, %v", n, y, got, ok)
			}
			if ok && !may {
				t.Fatalf("of %d, %v is there, and may not be", n, y)
			}
			if may && !ok {
				chance++
			}
			if ok {
				there++
			}
		}
		if n >= 5 && (chance == 0 || chance > 300 || there == 0) {
			t.Errorf("of %d, %d by chance, %d there", n, chance, there)
		}
	}
}

// The Key of one that may not be has the lowest bytes of its Series and Kind.
func TestMayOfWhatMayNotBe(t *testing.T) {
	l := tens(30)
	x := table(t, l...)
	below, above := badSeries()
	for _, y := range slices.Concat(bad(), below, above, far(), around(l[0]), around(l[20]), around(l[29])) {
		if got, want := x.May(y), has(l, y); got != want {
			t.Errorf("May of %v is %v", y, got)
		}
	}
	for _, y := range list(
		api.Item{Series: 1, Kind: 2, Time: 200}, api.Item{Series: 257, Kind: 2, Time: 200}, api.Item{Series: -255, Kind: 258, Time: 200},
	) {
		if !x.May(y) {
			t.Errorf("May of %v is false", y)
		}
	}
}

func TestRange(t *testing.T) {
	// The blocks begin at the times 10, 210 and 410; 450 is the last.
	l := tens(45)
	x := table(t, l...)
	at := func(time uint64) api.Item { return sample(1, time, 1, 1) }
	for _, c := range []struct {
		why      string
		from, to api.Item
		want     []api.Item
	}{
		{"all", at(10), at(450), l},
		{"all and more", at(0), at(1 << 40), l},
		{"all that there may be", api.Item{Series: math.MinInt}, api.Item{Series: math.MaxInt}, l},
		{"one", at(10), at(10), l[:1]},
		{"the last", at(450), at(450), l[44:]},
		{"the last, and behind", at(450), at(1 << 40), l[44:]},
		{"the last of a block", at(200), at(200), l[19:20]},
		{"the first of a block", at(210), at(210), l[20:21]},
		{"both", at(200), at(210), l[19:21]},
		{"over the border, not there", at(195), at(215), l[19:21]},
		{"between two", at(11), at(19), nil},
		{"between two blocks", at(201), at(209), nil},
		{"up to between two blocks", at(150), at(205), l[14:20]},
		{"from between two blocks", at(205), at(250), l[20:25]},
		{"from one border to the next", at(205), at(405), l[20:40]},
		{"a block", at(210), at(400), l[20:40]},
		{"over two borders", at(200), at(410), l[19:41]},
		{"ahead of all", at(0), at(9), nil},
		{"behind all", at(451), at(1 << 40), nil},
		{"up to the first", at(0), at(10), l[:1]},
		{"up to one that is not there", at(0), at(29), l[:2]},
		{"from one that is not there", at(431), at(450), l[43:]},
		{"from behind to", at(20), at(10), nil},
		{"from behind to, over the border", at(210), at(200), nil},
		{"from behind to, not there", at(15), at(14), nil},
		{"from behind to, all", at(450), at(10), nil},
		{"from behind all to ahead of all", at(1 << 40), at(0), nil},
		{"a series ahead", tomb(0, 1), sample(0, 1<<40, 1, 1), nil},
		{"a series behind", tomb(2, 1), sample(2, 1<<40, 1, 1), nil},
		{"its series", tomb(1, 1), sample(1, 1<<40, 1, 1), l},
		{"from one series to the next", sample(0, 300, 1, 1), sample(2, 300, 1, 1), l},
		{"up to a delete", at(10), tomb(1, 1), nil},
		{"another Version and Value", sample(1, 20, 1<<48, 9), sample(1, 30, 0, -9), l[1:3]},
		{"no kind", api.Item{Series: 1, Time: 300}, at(20), l[:2]},
		{"kind 3", at(440), api.Item{Series: 1, Kind: 3}, l[43:]},
		{"the zero item twice", api.Item{}, api.Item{}, nil},
	} {
		if got := ranged(t, x, c.from, c.to); !slices.Equal(got, c.want) {
			t.Errorf("%s: Range from %v to %v is %v", c.why, c.from, c.to, got)
		}
	}
}

func TestRangeOfDeletesAndSeries(t *testing.T) {
	// Series 1 to 4, each a delete and nine samples.
	l := row(50)[10:]
	x := table(t, l...)
	for s := 1; s <= 4; s++ {
		at := 10 * (s - 1)
		if got := ranged(t, x, tomb(s, 1), sample(s, 1<<40, 1, 1)); !slices.Equal(got, l[at:at+10]) {
			t.Errorf("series %d: %v", s, got)
		}
		if got := ranged(t, x, tomb(s, 1), tomb(s, 1)); !slices.Equal(got, l[at:at+1]) {
			t.Errorf("the delete of %d: %v", s, got)
		}
		if got := ranged(t, x, sample(s, 0, 1, 1), sample(s, 1<<40, 1, 1)); !slices.Equal(got, l[at+1:at+10]) {
			t.Errorf("the samples of %d: %v", s, got)
		}
	}
}

func TestRangeBetweenAnyTwo(t *testing.T) {
	for _, n := range []int{0, 1, 2, 20, 21, 41, 60} {
		l := tens(n)
		x := table(t, l...)
		for from := range uint64(2*n + 3) {
			for to := range uint64(2*n + 3) {
				a, b := sample(1, 5*from, 1, 1), sample(1, 5*to, 1, 1)
				if got, want := x.Range(a, b), plainRange(l, a, b); !slices.Equal(got, want) {
					t.Fatalf("of %d, Range from %d to %d is %v", n, a.Time, b.Time, got)
				}
			}
		}
	}
}

// No answer hangs on what was asked ahead of it, nor on what became of that.
func TestAnAnswerIsNotLent(t *testing.T) {
	l := tens(45)
	b, _ := Make(l)
	x, _ := read(t, b)
	first, second := x.All(), x.All()
	few, more := x.Range(l[15], l[30]), x.Range(l[15], l[30])
	spoil(first, api.Item{Series: -7})
	spoil(few, api.Item{Series: -7})
	if !slices.Equal(second, l) || !slices.Equal(more, l[15:31]) {
		t.Error("two answers share memory")
	}
	spoil(second, api.Item{Series: -7})
	spoil(more, api.Item{Series: -7})
	spoil(b, 0x55)
	holds(t, "spoiled", x, l)
	if got, ok := get(t, x, l[20]); got != l[20] || !ok {
		t.Error("Get is", got)
	}
	if !slices.Equal(x.Range(l[15], l[30]), l[15:31]) {
		t.Error("Range is", x.Range(l[15], l[30]))
	}
}

// Two Tables of the same bytes know nothing of each other.
func TestTwoTablesOfTheSameBytes(t *testing.T) {
	b := written(row(45)...)
	x, _ := Read(b)
	y, _ := Read(b)
	spoil(x.All(), api.Item{Series: -7})
	spoil(x.blocks, 0x55)
	holds(t, "the other one", y, row(45))
}

// Ways

func TestTheIndexIsOpenedOnce(t *testing.T) {
	for why, ask := range map[string]func(x *Table){
		"First": func(x *Table) { x.First() },
		"Last":  func(x *Table) { x.Last() },
		"Get":   func(x *Table) { x.Get(tens(45)[30]) },
		"Range": func(x *Table) { x.Range(api.Item{}, api.Item{}) },
		"All":   func(x *Table) { x.All() },
	} {
		x := table(t, tens(45)...)
		if x.index.marks != nil || len(x.index.body) == 0 {
			t.Error(why, "opened ahead of the first who asks")
		}
		x.Len()
		x.May(api.Item{})
		if x.index.marks != nil {
			t.Error(why, "opened where nobody needs it")
		}
		ask(x)
		if len(x.index.marks) != 3 || x.index.body != nil {
			t.Fatal(why, "did not open it")
		}
		first := &x.index.marks[0]
		ask(x)
		holds(t, why, x, tens(45))
		if &x.index.marks[0] != first {
			t.Error(why, "opened it again")
		}
	}
}

func TestTheIndexLeadsToTheBlocks(t *testing.T) {
	for _, l := range [][]api.Item{nil, row(1), row(20), row(21), row(400), row(2000), widest(2000)} {
		x := table(t, l...)
		marks := x.index.open()
		if len(marks) != (len(l)+19)/20 {
			t.Fatalf("of %d there are %d marks", len(l), len(marks))
		}
		for i, m := range marks {
			if m.first != l[20*i] || !slices.Equal(x.row(m), l[20*i:min(20*i+20, len(l))]) {
				t.Errorf("of %d, the %d-th mark is %v", len(l), i, m)
			}
		}
	}
}

func TestSeveralLookAtOneTable(t *testing.T) {
	l := row(100)
	b, _ := Make(l)
	for range 20 {
		x, _ := Read(b)
		var all sync.WaitGroup
		for i := range 8 {
			all.Go(func() {
				y := l[(i*31)%len(l)]
				if got, ok := x.Get(y); got != y || !ok || !x.May(y) {
					t.Error("Get", got, ok)
				}
				if got := x.Range(l[i], l[i+30]); !slices.Equal(got, l[i:i+31]) {
					t.Error("Range", got)
				}
				if got, ok := x.Last(); got != l[99] || !ok {
					t.Error("Last", got, ok)
				}
				if !slices.Equal(x.All(), l) {
					t.Error("All")
				}
			})
		}
		all.Wait()
	}
}
