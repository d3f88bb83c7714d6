package bloom

import (
	"bytes"
	"encoding/hex"
	"fmt"
	"math"
	"math/rand/v2"
	"slices"
	"strings"
	"sync"
	"testing"

	"clepsydra/api"
	"clepsydra/num"
	"clepsydra/sum"
)

// made answers a Filter that New must not refuse.
func made(t *testing.T, n, bits int) *Filter {
	t.Helper()
	f, e := New(n, bits)
	if f == nil || e != api.OK {
		t.Fatalf("New(%d, %d) is %v, %v", n, bits, f, e)
	}
	return f
}

// reread answers the Filter that Read makes of what f's Bytes are.
func reread(t *testing.T, f *Filter) *Filter {
	t.Helper()
	b := f.Bytes()
	g, e := Read(b)
	if g == nil || e != api.OK {
		t.Fatalf("Read(%x) is %v, %v", b, g, e)
	}
	return g
}

// shows fails where f does not tell of these bytes. It asks twice, since
// asking changes nothing.
func shows(t *testing.T, f *Filter, k int, body []byte) {
	t.Helper()
	ones := 0
	for _, c := range body {
		ones += strings.Count(fmt.Sprintf("%b", c), "1")
	}
	want := told(uint64(k), uint64(len(body)), body)
	for range 2 {
		if got := f.Bytes(); !bytes.Equal(got, want) {
			t.Errorf("Bytes is %x, not %x", got, want)
		}
		if got := f.Ones(); got != ones {
			t.Errorf("Ones is %d, not %d", got, ones)
		}
	}
}

// told answers what Bytes must be of these.
func told(k, size uint64, body []byte) []byte {
	return append(num.Put(num.Put(nil, k), size), body...)
}

// spread answers size bytes with these bits set.
func spread(size int, places ...int) []byte {
	body := make([]byte, size)
	for _, at := range places {
		body[at/8] |= 1 << (at % 8)
	}
	return body
}

// keys answers n keys, no two of them the same.
func keys(n int) [][]byte {
	l := make([][]byte, n)
	for i := range l {
		l[i] = fmt.Appendf(nil, "%d%s", i, strings.Repeat(".", i%40))
	}
	return l
}

// 10.1, New

func TestNewRefuses(t *testing.T) {
	for _, n := range []int{math.MinInt, -10000, -1, 0, 1, 9999, 10000, 10001, 10002, math.MaxInt} {
		for _, bits := range []int{math.MinInt, -20, -1, 0, 1, 2, 19, 20, 21, 22, math.MaxInt} {
			want := api.ErrArg
			if n >= 0 && n <= 10000 && bits >= 1 && bits <= 20 {
				want = api.OK
			}
			if f, e := New(n, bits); e != want || (f == nil) != (e != api.OK) {
				t.Errorf("New(%d, %d) is %v, %v, not %v", n, bits, f, e, want)
			}
		}
	}
}

func TestNewIsOfSoManyBits(t *testing.T) {
	for _, c := range []struct{ n, bits, size int }{
		{0, 1, 8}, {0, 20, 8}, {1, 1, 8}, {1, 20, 8}, {3, 20, 8}, {63, 1, 8}, {9, 7, 8},
		{64, 1, 8}, {32, 2, 8}, {8, 8, 8}, {4, 16, 8},
		{65, 1, 9}, {13, 5, 9}, {33, 2, 9}, {11, 6, 9}, {71, 1, 9}, {72, 1, 9}, {9, 8, 9}, {4, 18, 9},
		{73, 1, 10}, {10, 10, 13}, {127, 1, 16}, {128, 1, 16}, {129, 1, 17}, {100, 20, 250}, {1000, 7, 875}, {999, 7, 875},
		{10000, 1, 1250}, {10000, 19, 23750}, {9999, 19, 23748}, {9999, 20, 24998}, {10000, 20, 25000},
	} {
		f := made(t, c.n, c.bits)
		k, at, _ := num.Take(f.Bytes())
		size, _, _ := num.Take(f.Bytes()[at:])
		if size != uint64(c.size) {
			t.Errorf("New(%d, %d) has %d bytes, not %d", c.n, c.bits, size, c.size)
		}
		shows(t, f, int(k), make([]byte, c.size))
	}
}

func TestNewIsOfThisK(t *testing.T) {
	want := []int{1, 1, 2, 2, 3, 4, 4, 5, 6, 7, 7, 8, 9, 9, 10, 11, 11, 12, 13, 14}
	for i, k := range want {
		for _, n := range []int{0, 1, 1000} {
			if b := made(t, n, i+1).Bytes(); b[0] != byte(k) {
				t.Errorf("New(%d, %d) has a k of %d, not %d", n, i+1, b[0], k)
			}
		}
	}
}

// 10.1, Add

// The bits of these were worked out by another program.
func TestAddSetsTheseBits(t *testing.T) {
	for _, c := range []struct {
		key     string
		n, bits int
		want    string
	}{
		{"", 0, 1, "0000000020000000"},
		{"", 10, 10, "00222200000020220000000000"},
		{"", 0, 20, "2022220222222222"},
		{"a", 0, 1, "0010000000000000"},
		{"a", 10, 10, "00100000010001000100100010"},
		{"a", 0, 20, "1011111111110111"},
		{"\x00", 10, 10, "00000080088800000000808800"},
		{"\x00", 0, 20, "0888808888888888"},
		{"\xff", 10, 10, "00400400400000040040000044"},
		{"\xff", 0, 20, "4444044440444444"},
		{"key", 0, 1, "0000000000100000"},
		{"key", 10, 10, "00012000001000000480000240"},
		{"key", 0, 20, "2420014940129280"},
		{strings.Repeat("x", 1000), 10, 10, "00020000040000882000004100"},
		{strings.Repeat("x", 1000), 0, 20, "2424014940029280"},
	} {
		f := made(t, c.n, c.bits)
		f.Add([]byte(c.key))
		want, _ := hex.DecodeString(c.want)
		shows(t, f, max(c.bits*7/10, 1), want)
	}
}

// Each bit is told from the two halves of the hash, in numbers that do not end
// at 2^32.
func TestAddByTheHalves(t *testing.T) {
	beyond, within := 0, 0
	for _, key := range append(keys(300), nil, []byte{7}, make([]byte, 100000)) {
		h := sum.Hash(key)
		for _, c := range []struct{ n, bits, k, size int }{{0, 1, 1, 8}, {10, 10, 7, 13}, {65, 2, 1, 17}, {9999, 19, 13, 23748}, {10000, 20, 14, 25000}} {
			var places []int
			for i := range uint64(c.k) {
				at := h%(1<<32) + i*(h>>32)
				if at >= 1<<32 {
					beyond++
				} else {
					within++
				}
				places = append(places, int(at%(1<<32))%(8*c.size))
			}
			f := made(t, c.n, c.bits)
			f.Add(key)
			if shows(t, f, c.k, spread(c.size, places...)); t.Failed() {
				t.Fatalf("Add of %.40q to New(%d, %d)", key, c.n, c.bits)
			}
		}
	}
	if beyond < 1000 || within < 1000 {
		t.Errorf("%d bits beyond 2^32, %d within", beyond, within)
	}
}

func TestAddOfOneKeyTwice(t *testing.T) {
	for _, key := range [][]byte{nil, {0}, []byte("key")} {
		once, twice := made(t, 10, 10), made(t, 10, 10)
		once.Add(key)
		twice.Add(key)
		twice.Add(key)
		if !bytes.Equal(once.Bytes(), twice.Bytes()) || once.Ones() != twice.Ones() {
			t.Errorf("Add of %q twice: %x, once: %x", key, twice.Bytes(), once.Bytes())
		}
	}
}

func TestAddOfNilIsOfNoBytes(t *testing.T) {
	f, g := made(t, 10, 10), made(t, 10, 10)
	f.Add(nil)
	g.Add([]byte{})
	if !bytes.Equal(f.Bytes(), g.Bytes()) || !f.Has([]byte{}) || !g.Has(nil) {
		t.Errorf("nil: %x, no bytes: %x", f.Bytes(), g.Bytes())
	}
}

// A bit that is set stays set, and no order counts.
func TestAddsInAnyOrder(t *testing.T) {
	l := keys(60)
	f, g := made(t, 60, 5), made(t, 60, 5)
	was := 0
	for i := range l {
		f.Add(l[i])
		g.Add(l[len(l)-1-i])
		if f.Ones() < was {
			t.Errorf("Ones fell from %d to %d", was, f.Ones())
		}
		was = f.Ones()
	}
	if !bytes.Equal(f.Bytes(), g.Bytes()) {
		t.Errorf("%x, in another order %x", f.Bytes(), g.Bytes())
	}
}

// 10.1, Has

func TestHasOfAFilterToWhichNothingWasAdded(t *testing.T) {
	for _, c := range [][2]int{{0, 1}, {10, 10}, {0, 20}, {10000, 20}} {
		f := made(t, c[0], c[1])
		for _, g := range []*Filter{f, reread(t, f)} {
			for _, key := range append(keys(50), nil, []byte{}, []byte{0}) {
				if g.Has(key) {
					t.Errorf("New(%d, %d) Has %q", c[0], c[1], key)
				}
			}
		}
	}
}

// Has asks for each of the bits, the first and the last among them.
func TestHasNeedsAllBits(t *testing.T) {
	key := []byte("key")
	places := []int{44, 21, 102, 79, 8, 89, 66}
	all := spread(13, places...)
	if f, _ := Read(told(7, 13, all)); !f.Has(key) {
		t.Error("all bits are set")
	}
	for i := range places {
		body := spread(13, slices.Delete(slices.Clone(places), i, i+1)...)
		if f, _ := Read(told(7, 13, body)); f.Has(key) {
			t.Errorf("bit %d is not set", places[i])
		}
		others := slices.Clone(all)
		for j := range others {
			others[j] = ^others[j] | body[j]
		}
		if f, _ := Read(told(7, 13, others)); f.Has(key) {
			t.Errorf("bit %d alone is not set", places[i])
		}
	}
	// With a lesser k the bits at the end are not asked for.
	for k := 1; k <= 7; k++ {
		if f, _ := Read(told(uint64(k), 13, spread(13, places[:k]...))); !f.Has(key) {
			t.Errorf("the first %d bits are set", k)
		}
		if f, _ := Read(told(uint64(k), 13, spread(13, places[:k-1]...))); f.Has(key) {
			t.Errorf("only the first %d of %d bits are set", k-1, k)
		}
	}
}

func TestHasAnythingWhereAllBitsAreSet(t *testing.T) {
	f, e := Read(told(14, 9, bytes.Repeat([]byte{0xff}, 9)))
	if e != api.OK {
		t.Fatal(e)
	}
	for _, key := range append(keys(50), nil) {
		if !f.Has(key) {
			t.Errorf("Has(%q) is false", key)
		}
	}
	shows(t, f, 14, bytes.Repeat([]byte{0xff}, 9))
}

func TestHasFewOthers(t *testing.T) {
	f := made(t, 1000, 10)
	for i := range 1000 {
		f.Add(fmt.Append(nil, "in", i))
	}
	wrong := 0
	for i := range 10000 {
		if f.Has(fmt.Append(nil, "out", i)) {
			wrong++
		}
	}
	if wrong > 300 {
		t.Errorf("Has %d of 10,000 that were not Added", wrong)
	}
}

// 10.1, Bytes and Ones

func TestBytesBitByBit(t *testing.T) {
	for _, size := range []int{8, 9, 15, 16, 17} {
		for at := range 8 * size {
			b := told(3, uint64(size), spread(size, at))
			f, e := Read(b)
			if e != api.OK || f.Ones() != 1 || !bytes.Equal(f.Bytes(), b) {
				t.Fatalf("bit %d of %d bytes: %v", at, size, e)
			}
		}
	}
	if b := told(1, 8, spread(8, 0)); hex.EncodeToString(b) != "01080100000000000000" {
		t.Errorf("bit 0 alone: %x", b)
	}
}

func TestBytesOfSizesOfMoreBytes(t *testing.T) {
	for _, c := range []struct {
		n    int
		head string
	}{{64, "0108"}, {127 * 8, "017f"}, {127*8 + 1, "018001"}, {10000, "01e209"}} {
		if b := made(t, c.n, 1).Bytes(); !strings.HasPrefix(hex.EncodeToString(b), c.head+"00") {
			t.Errorf("New(%d, 1): %.8x", c.n, b)
		}
	}
	if b := made(t, 10000, 20).Bytes(); hex.EncodeToString(b[:4]) != "0ea8c301" || len(b) != 25004 {
		t.Errorf("New(10000, 20): %x, %d", b[:4], len(b))
	}
}

func TestOnes(t *testing.T) {
	f := made(t, 10, 10)
	// "a" has one of its seven bits twice; no bytes have one of those of "key".
	for _, c := range []struct {
		key  string
		want int
	}{{"a", 6}, {"a", 6}, {"key", 13}, {"", 19}, {"key", 19}} {
		f.Add([]byte(c.key))
		if f.Ones() != c.want {
			t.Errorf("Ones behind %q is %d, not %d", c.key, f.Ones(), c.want)
		}
	}
}

// 10.1, Read

func TestReadRefuses(t *testing.T) {
	row := func(k, n uint64, size int) []byte { return told(k, n, make([]byte, size)) }
	for i, c := range []struct {
		b []byte
		e api.Errno
	}{
		{nil, api.ErrTorn}, {[]byte{}, api.ErrTorn},
		// num.Take's errors of the first number
		{[]byte{0x80}, api.ErrTorn}, {[]byte{0x80, 0}, api.ErrForm}, {[]byte{0x87, 0}, api.ErrForm},
		{append([]byte{0x81, 0x00}, row(1, 8, 8)...), api.ErrForm},
		{append(bytes.Repeat([]byte{0xff}, 9), 2, 8), api.ErrForm},
		{bytes.Repeat([]byte{0xff}, 9), api.ErrTorn}, {bytes.Repeat([]byte{0xff}, 12), api.ErrForm},
		// and of the second, ahead of all that is said of the numbers
		{[]byte{1}, api.ErrTorn}, {[]byte{1, 0x80}, api.ErrTorn}, {[]byte{1, 0x80, 0}, api.ErrForm},
		{[]byte{0}, api.ErrTorn}, {[]byte{15}, api.ErrTorn}, {[]byte{0, 0xff}, api.ErrTorn}, {num.Put(nil, math.MaxUint64), api.ErrTorn},
		{append([]byte{1, 0x88, 0}, make([]byte, 8)...), api.ErrForm},
		{append(append([]byte{1}, bytes.Repeat([]byte{0xff}, 9)...), 2), api.ErrForm},
		{append([]byte{1}, bytes.Repeat([]byte{0xff}, 9)...), api.ErrTorn},
		// k
		{row(0, 8, 8), api.ErrForm}, {row(1, 8, 8), api.OK}, {row(14, 8, 8), api.OK}, {row(15, 8, 8), api.ErrForm},
		{row(257, 8, 8), api.ErrForm}, {row(1<<32+1, 8, 8), api.ErrForm}, {row(1<<63+1, 8, 8), api.ErrForm}, {row(math.MaxUint64, 8, 8), api.ErrForm},
		{row(0, 8, 7), api.ErrForm}, {row(15, 8, 0), api.ErrForm},
		// how many bytes
		{row(1, 0, 0), api.ErrForm}, {row(1, 7, 7), api.ErrForm}, {row(1, 7, 0), api.ErrForm}, {row(1, 7, 8), api.ErrForm}, {row(1, 9, 9), api.OK},
		{row(14, 25000, 25000), api.OK}, {row(1, 25001, 25001), api.ErrForm}, {row(1, 25001, 0), api.ErrForm}, {row(1, 25001, 25002), api.ErrForm},
		{row(1, 1<<32+8, 8), api.ErrForm}, {row(1, 1<<63, 9), api.ErrForm}, {row(1, 1<<63+8, 8), api.ErrForm},
		{row(1, math.MaxUint64, 8), api.ErrForm}, {row(1, math.MaxUint64, 0), api.ErrForm},
		// some are wanting, or left
		{row(1, 8, 0), api.ErrTorn}, {row(1, 8, 7), api.ErrTorn}, {row(1, 25000, 0), api.ErrTorn}, {row(1, 25000, 24999), api.ErrTorn},
		{row(1, 8, 9), api.ErrForm}, {row(1, 8, 16), api.ErrForm}, {row(1, 9, 10), api.ErrForm}, {row(14, 25000, 25001), api.ErrForm},
	} {
		f, e := Read(c.b)
		if e != c.e || (f == nil) != (e != api.OK) {
			t.Errorf("%d: Read(%.20x) is %v, not %v", i, c.b, e, c.e)
		}
		if e == api.OK && !bytes.Equal(f.Bytes(), c.b) {
			t.Errorf("%d: Read(%.20x) has %.20x", i, c.b, f.Bytes())
		}
	}
}

func TestReadOfEveryBeginning(t *testing.T) {
	f := made(t, 127*8+1, 1)
	f.Add([]byte("a"))
	b := f.Bytes()
	for end := range b {
		if g, e := Read(b[:end]); g != nil || e != api.ErrTorn {
			t.Errorf("the first %d bytes: %v, %v", end, g, e)
		}
	}
	for end := range 300 {
		if g, e := Read(append(slices.Clone(b), make([]byte, end+1)...)); g != nil || e != api.ErrForm {
			t.Errorf("%d bytes more: %v, %v", end+1, g, e)
		}
	}
}

// Read takes each k with each number of bytes, also those that New never joins.
func TestReadOfAnyKAndSize(t *testing.T) {
	r := rand.New(rand.NewPCG(10, 1))
	for k := 1; k <= 14; k++ {
		for _, size := range []int{8, 9, 10, 63, 64, 65, 127, 128, 1001, 16383, 16384, 24999, 25000} {
			body := make([]byte, size)
			for i := range body {
				body[i] = byte(r.Uint32() & r.Uint32())
			}
			f, e := Read(told(uint64(k), uint64(size), body))
			if e != api.OK {
				t.Fatal(k, size, e)
			}
			shows(t, f, k, body)
			if f.Add([]byte("a")); !f.Has([]byte("a")) {
				t.Errorf("k %d, %d bytes: Has is false", k, size)
			}
		}
	}
}

// 10.2

func TestWhatWasAddedItHas(t *testing.T) {
	all := append(keys(500), nil, []byte{0}, []byte{0xff}, make([]byte, 70000))
	for _, c := range [][2]int{{0, 1}, {0, 20}, {1, 1}, {13, 5}, {50, 3}, {504, 10}, {10000, 1}, {10000, 20}} {
		f := made(t, c[0], c[1])
		for i, key := range all {
			f.Add(key)
			if !f.Has(key) || !f.Has(all[i/2]) {
				t.Fatalf("New(%d, %d) has not %.40q", c[0], c[1], key)
			}
		}
		g := reread(t, f)
		for _, key := range all {
			if !f.Has(key) || !g.Has(key) {
				t.Fatalf("New(%d, %d) has not %.40q at the end", c[0], c[1], key)
			}
		}
		if !bytes.Equal(f.Bytes(), g.Bytes()) || f.Ones() != g.Ones() {
			t.Errorf("New(%d, %d) is read as another", c[0], c[1])
		}
		g.Add([]byte("more"))
		if all := append(all, []byte("more")); !g.Has(all[0]) || !g.Has(all[len(all)-1]) {
			t.Errorf("New(%d, %d) has not what was Added behind Read", c[0], c[1])
		}
	}
}

// 10.3, and the document's rule 3

// spare answers b with room behind it, and a look at whether that room or b
// was changed.
func spare(b []byte) (own []byte, same func() bool) {
	all := append(slices.Clone(b), "behind it"...)
	was := slices.Clone(all)
	return all[:len(b)], func() bool { return bytes.Equal(all, was) }
}

func spoil(b []byte) {
	for i := range b[:cap(b)] {
		b[:cap(b)][i] ^= 0xff
	}
}

func TestAKeyIsNotKept(t *testing.T) {
	f, want := made(t, 10, 10), made(t, 10, 10)
	want.Add([]byte("key"))
	key, same := spare([]byte("key"))
	f.Add(key)
	if !f.Has(key) || !same() {
		t.Error("Add or Has changed its key, or what is behind it")
	}
	spoil(key)
	if !bytes.Equal(f.Bytes(), want.Bytes()) || !f.Has([]byte("key")) || f.Has(key) || f.Ones() != want.Ones() {
		t.Error("the Filter went with the key")
	}
}

func TestWhatReadIsHandedIsNotKept(t *testing.T) {
	was := made(t, 10, 10)
	was.Add([]byte("key"))
	b, same := spare(was.Bytes())
	f, e := Read(b)
	if e != api.OK || !same() {
		t.Errorf("Read changed its bytes, or what is behind them: %v", e)
	}
	f.Add([]byte("a"))
	if !same() {
		t.Error("Add changed what Read was handed")
	}
	spoil(b)
	was.Add([]byte("a"))
	if !bytes.Equal(f.Bytes(), was.Bytes()) || !f.Has([]byte("key")) || f.Ones() != 13 {
		t.Error("the Filter went with what Read was handed")
	}
	short, same := spare(was.Bytes()[:9])
	if _, e := Read(short); e != api.ErrTorn || !same() {
		t.Errorf("a Read that was refused changed its bytes, or took those behind them: %v", e)
	}
}

func TestBytesIsNewMemory(t *testing.T) {
	f := made(t, 10, 10)
	f.Add([]byte("key"))
	want := slices.Clone(f.Bytes())
	got, again := f.Bytes(), f.Bytes()
	spoil(got)
	if !bytes.Equal(again, want) {
		t.Error("two answers share memory")
	}
	if !bytes.Equal(f.Bytes(), want) || !f.Has([]byte("key")) || f.Ones() != 7 {
		t.Error("the Filter went with what Bytes answered")
	}
	f.Add([]byte("a"))
	if !bytes.Equal(again, want) {
		t.Error("what Bytes answered went with the Filter")
	}
}

func TestFiltersStandAlone(t *testing.T) {
	f, g := made(t, 10, 10), made(t, 10, 10)
	f.Add([]byte("key"))
	if g.Ones() != 0 || g.Has([]byte("key")) {
		t.Error("one Filter went with another")
	}
	h := reread(t, f)
	h.Add([]byte("a"))
	if f.Ones() != 7 || f.Has([]byte("a")) {
		t.Error("a Filter went with one that was read")
	}
}

// Ways

// The words of a new Filter are set once, also where several are the first to
// look at them.
func TestOneFilterOfManyGoroutines(t *testing.T) {
	for range 50 {
		f := made(t, 100, 10)
		want := told(7, 125, make([]byte, 125))
		var all sync.WaitGroup
		for range 8 {
			all.Go(func() {
				if f.Has(nil) || f.Ones() != 0 || !bytes.Equal(f.Bytes(), want) {
					t.Error("a new Filter has bits")
				}
			})
		}
		all.Wait()
		f.Add(nil)
		words := f.laid()
		if f.Ones() != 7 || &words[0] != &f.laid()[0] {
			t.Error("the words were set again")
		}
	}
}
