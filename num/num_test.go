package num

import (
	"bytes"
	"encoding/hex"
	"fmt"
	"math"
	"math/big"
	"slices"
	"testing"

	"clepsydra/api"
)

// edges are the numbers around each power of two, rising, each once.
func edges() []uint64 {
	l := []uint64{0, 300, math.MaxUint64}
	for i := range 64 {
		n := uint64(1) << i
		l = append(l, n-1, n, n+1)
	}
	slices.Sort(l)
	return slices.Compact(l)
}

func unhex(t *testing.T, s string) []byte {
	t.Helper()
	b, err := hex.DecodeString(s)
	if err != nil {
		t.Fatal(err)
	}
	return b
}

// groups writes n as 1.1 says it, by division.
func groups(n uint64) []byte {
	var b []byte
	for n > 127 {
		b = append(b, byte(n%128+128))
		n /= 128
	}
	return append(b, byte(n))
}

// take reads b as 1.1 says it, with numbers that have no end.
func take(b []byte) string {
	end := slices.IndexFunc(b, func(c byte) bool { return c < 128 })
	if end < 0 && len(b) < 10 {
		return told(0, 0, api.ErrTorn)
	}
	if end < 0 || end >= 10 {
		return told(0, 0, api.ErrForm)
	}
	n := new(big.Int)
	for i := end; i >= 0; i-- {
		n.Mul(n, big.NewInt(128))
		n.Add(n, big.NewInt(int64(b[i]%128)))
	}
	if !n.IsUint64() || len(groups(n.Uint64())) != end+1 {
		return told(0, 0, api.ErrForm)
	}
	return told(n.Uint64(), end+1, api.OK)
}

func told(n uint64, size int, e api.Errno) string {
	return fmt.Sprint(n, size, int(e))
}

// 1.1

func TestPut(t *testing.T) {
	for n, want := range map[uint64]string{
		0: "00", 1: "01", 127: "7f", 128: "8001", 300: "ac02", 16383: "ff7f", 16384: "808001",
		1 << 63: "80808080808080808001", math.MaxUint64: "ffffffffffffffffff01",
	} {
		if got := hex.EncodeToString(Put(nil, n)); got != want {
			t.Errorf("Put(nil, %d) = %s, want %s", n, got, want)
		}
	}
	for _, n := range edges() {
		want := append([]byte{0x80, 7}, groups(n)...)
		if got := Put([]byte{0x80, 7}, n); !bytes.Equal(got, want) {
			t.Fatalf("Put(80 07, %d) = %x, want %x", n, got, want)
		}
	}
}

func TestTakeOrdinary(t *testing.T) {
	for _, n := range edges() {
		b := groups(n)
		for _, behind := range []string{"", "00", "80", "ffff"} {
			in := append(slices.Clone(b), unhex(t, behind)...)
			got, size, e := Take(in)
			if got != n || size != len(b) || e != api.OK {
				t.Fatalf("Take(%x) = %d, %d, %v", in, got, size, e)
			}
		}
	}
}

func TestTakeRefuses(t *testing.T) {
	for _, c := range []struct {
		in   string
		want api.Errno
		why  string
	}{
		{"", api.ErrTorn, "no bytes"},
		{"80", api.ErrTorn, "it ends within"},
		{"ff", api.ErrTorn, "it ends within"},
		{"808080808080808080", api.ErrTorn, "nine bytes, it ends within"},
		{"ffffffffffffffffff", api.ErrTorn, "nine bytes, it ends within"},
		{"80808080808080808080", api.ErrForm, "it goes on behind the tenth"},
		{"80808080808080808081", api.ErrForm, "it goes on behind the tenth"},
		{"ffffffffffffffffffff", api.ErrForm, "it goes on behind the tenth"},
		{"8080808080808080808001", api.ErrForm, "eleven bytes"},
		{"ffffffffffffffffff8100", api.ErrForm, "eleven bytes"},
		{"80808080808080808080808001", api.ErrForm, "thirteen bytes"},
		{"80808080808080808002", api.ErrForm, "2^64"},
		{"ffffffffffffffffff02", api.ErrForm, "above 2^64 - 1"},
		{"ffffffffffffffffff03", api.ErrForm, "above 2^64 - 1"},
		{"ffffffffffffffffff7f", api.ErrForm, "above 2^64 - 1"},
		{"8000", api.ErrForm, "0 in two bytes"},
		{"ff00", api.ErrForm, "127 in two bytes"},
		{"ff8000", api.ErrForm, "127 in three bytes"},
		{"ffffffffffffffff7f", api.OK, "2^63 - 1"},
		{"ffffffffffffffffff00", api.ErrForm, "2^63 - 1 in ten bytes"},
		{"80808080808080808000", api.ErrForm, "0 in ten bytes"},
	} {
		n, size, e := Take(unhex(t, c.in))
		if e != c.want {
			t.Errorf("Take(%s): %v, want %v: %s", c.in, e, c.want, c.why)
		}
		if e != api.OK && (n != 0 || size != 0) {
			t.Errorf("Take(%s) = %d, %d beside an error", c.in, n, size)
		}
	}
}

func TestTakeOfAllShortBytes(t *testing.T) {
	for i := range 1 << 16 {
		pair := []byte{byte(i >> 8), byte(i)}
		for _, head := range []string{"", "80", "ffffffffffffff", "80808080808080ff"} {
			b := append(unhex(t, head), pair...)
			n, size, e := Take(b)
			if got, want := told(n, size, e), take(b); got != want {
				t.Fatalf("Take(%x) = %s, want %s", b, got, want)
			}
		}
	}
}

func TestEight(t *testing.T) {
	for n, want := range map[uint64]string{
		0: "0000000000000000", 258: "0000000000000102", 0x0123456789abcdef: "0123456789abcdef",
		1 << 63: "8000000000000000", math.MaxUint64: "ffffffffffffffff",
	} {
		if got := hex.EncodeToString(Eight(nil, n)); got != want {
			t.Errorf("Eight(nil, %d) = %s, want %s", n, got, want)
		}
		if got := hex.EncodeToString(Eight([]byte{0xab}, n)); got != "ab"+want {
			t.Errorf("Eight(ab, %d) = %s, want ab%s", n, got, want)
		}
		for _, behind := range []string{"", "ff", "0000"} {
			if got, e := Uneight(unhex(t, want+behind)); got != n || e != api.OK {
				t.Errorf("Uneight(%s%s) = %d, %v", want, behind, got, e)
			}
		}
	}
}

func TestUneightRefuses(t *testing.T) {
	for size := range eight {
		b := bytes.Repeat([]byte{0xff}, size)
		if n, e := Uneight(b); n != 0 || e != api.ErrTorn {
			t.Errorf("Uneight(%x) = %d, %v", b, n, e)
		}
	}
}

func TestSign(t *testing.T) {
	for i, n := range []int64{0, -1, 1, -2, 2, -3, 3} {
		if got := Sign(n); got != uint64(i) {
			t.Errorf("Sign(%d) = %d, want %d", n, got, i)
		}
	}
	for n, want := range map[int64]uint64{
		math.MaxInt64: math.MaxUint64 - 1, math.MinInt64: math.MaxUint64,
		math.MaxInt64 - 1: math.MaxUint64 - 3, math.MinInt64 + 1: math.MaxUint64 - 2,
	} {
		if got := Sign(n); got != want {
			t.Errorf("Sign(%d) = %d, want %d", n, got, want)
		}
	}
	for _, n := range edges() {
		if got := Sign(Unsign(n)); got != n {
			t.Errorf("Sign(Unsign(%d)) = %d", n, got)
		}
		if got := Unsign(Sign(int64(n))); got != int64(n) {
			t.Errorf("Unsign(Sign(%d)) = %d", int64(n), got)
		}
	}
}

// 1.2

func TestList(t *testing.T) {
	for _, c := range []struct {
		l    []uint64
		want string
	}{
		{nil, "00"},
		{[]uint64{}, "00"},
		{[]uint64{0}, "0100"},
		{[]uint64{5, 300}, "0205ac02"},
		{[]uint64{math.MaxUint64, 0}, "02ffffffffffffffffff0100"},
		{make([]uint64, 128), "8001" + hex.EncodeToString(make([]byte, 128))},
	} {
		if got := hex.EncodeToString(List(nil, c.l)); got != c.want {
			t.Errorf("List(nil, %d) = %s, want %s", c.l, got, c.want)
		}
		if got := hex.EncodeToString(List([]byte{9, 0x80}, c.l)); got != "0980"+c.want {
			t.Errorf("List(09 80, %d) = %s, want 0980%s", c.l, got, c.want)
		}
	}
}

func TestUnlist(t *testing.T) {
	for _, c := range []struct {
		in   string
		most int
		want string
	}{
		{"0205ac02", 2, "[5 300] 4 0"},
		{"0205ac02", math.MaxInt, "[5 300] 4 0"},
		{"0205ac0207", 2, "[5 300] 4 0"},
		{"0205ac0280", 2, "[5 300] 4 0"},
		{"00", 0, "[] 1 0"},
		{"00", -1, "[] 1 0"},
		{"00", math.MinInt, "[] 1 0"},
		{"00ff", 3, "[] 1 0"},

		{"0205ac02", 1, "[] 0 2"},
		{"0205ac02", 0, "[] 0 2"},
		{"0205ac02", -1, "[] 0 2"},
		{"0107", math.MinInt, "[] 0 2"},

		{"", 5, "[] 0 4"},
		{"", -5, "[] 0 4"},
		{"80", 0, "[] 0 4"},
		{"05", 9, "[] 0 4"},
		{"0205", 2, "[] 0 4"},
		{"0205ac", 2, "[] 0 4"},

		{"8000", 5, "[] 0 3"},
		{"80808080808080808002", 5, "[] 0 3"},
		{"018000", 5, "[] 0 3"},
		{"0207ff8000", 5, "[] 0 3"},
		{"01ffffffffffffffffff02", 1, "[] 0 3"},
		{"018080808080808080808001", 1, "[] 0 3"},
	} {
		l, size, e := Unlist(unhex(t, c.in), c.most)
		if got := fmt.Sprint(l, size, int(e)); got != c.want {
			t.Errorf("Unlist(%s, %d) = %s, want %s", c.in, c.most, got, c.want)
		}
	}
}

// A list that says it is too long is refused by that alone: what stands
// behind its count is not looked at.
func TestUnlistLooksAtItsCountFirst(t *testing.T) {
	for _, in := range []string{"03", "0305", "038000", "ffffffffffffffffff01"} {
		if l, size, e := Unlist(unhex(t, in), 2); len(l) != 0 || size != 0 || e != api.ErrLong {
			t.Errorf("Unlist(%s, 2) = %d, %d, %v", in, l, size, e)
		}
	}
}

// 1.3

func TestWhatIsPutIsTaken(t *testing.T) {
	var b []byte
	for _, n := range edges() {
		b = Put(b, n)
	}
	for _, n := range edges() {
		got, size, e := Take(b)
		if got != n || e != api.OK {
			t.Fatalf("Take = %d, %v, want %d", got, e, n)
		}
		b = b[size:]
	}
	if len(b) != 0 {
		t.Errorf("%d bytes are left", len(b))
	}
}

func TestWhatIsListedIsUnlisted(t *testing.T) {
	all := edges()
	for size := range all {
		l := all[:size]
		b := List(nil, l)
		got, end, e := Unlist(b, size)
		if !slices.Equal(got, l) || end != len(b) || e != api.OK {
			t.Fatalf("Unlist of %d = %d, %d, %v", l, got, end, e)
		}
	}
	long := make([]uint64, 100_000)
	for i := range long {
		long[i] = uint64(i) * uint64(i) * uint64(i)
	}
	if got, _, e := Unlist(List(nil, long), len(long)); !slices.Equal(got, long) || e != api.OK {
		t.Error("a long list is not the same", e)
	}
}

func TestEightKeepsTheOrder(t *testing.T) {
	all := edges()
	for i, n := range all[1:] {
		if bytes.Compare(Eight(nil, all[i]), Eight(nil, n)) >= 0 {
			t.Errorf("Eight of %d is not ahead of Eight of %d", all[i], n)
		}
	}
	for _, n := range all {
		if got, e := Uneight(Eight(nil, n)); got != n || e != api.OK {
			t.Errorf("Uneight(Eight(%d)) = %d, %v", n, got, e)
		}
	}
}

// 1.4

func TestEveryCallEnds(t *testing.T) {
	for _, count := range []uint64{1 << 31, 1 << 62, math.MaxInt64, math.MaxUint64} {
		for size := range 4 {
			b := append(Put(nil, count), make([]byte, size)...)
			want := api.ErrTorn
			if count > math.MaxInt {
				want = api.ErrLong
			}
			if l, end, e := Unlist(b, math.MaxInt); len(l) != 0 || end != 0 || e != want {
				t.Errorf("Unlist(%x) = %d, %d, %v", b, l, end, e)
			}
		}
	}
	Take(bytes.Repeat([]byte{0x80}, 1<<20))
}

func FuzzNoCallPanics(f *testing.F) {
	for _, s := range []string{"", "\x00", "\x80", "\x02\x05\xac\x02", "\xff\xff\xff\xff\xff\xff\xff\xff\xff\x01"} {
		f.Add([]byte(s), uint64(len(s)), 3)
	}
	f.Fuzz(func(t *testing.T, b []byte, n uint64, most int) {
		was := bytes.Clone(b)
		got, size, e := Take(b)
		if now, want := told(got, size, e), take(b); now != want {
			t.Errorf("Take(%x) = %s, want %s", b, now, want)
		}
		l, end, e := Unlist(b, most)
		if e == api.OK && !bytes.Equal(List(nil, l), b[:end]) {
			t.Errorf("List(Unlist(%x)) = %x", b, List(nil, l))
		}
		Uneight(b)
		Put(b, n)
		Eight(b, n)
		List(b, []uint64{n})
		Sign(Unsign(n))
		if !bytes.Equal(b, was) {
			t.Errorf("%x was changed to %x", was, b)
		}
	})
}

// The document's rule 3: what is handed in stays as it was, its spare room
// too, and what is answered is new memory.
func TestArgumentsAreLeftAlone(t *testing.T) {
	for name, call := range map[string]func(b []byte) []byte{
		"Put":   func(b []byte) []byte { return Put(b, 300) },
		"Eight": func(b []byte) []byte { return Eight(b, 300) },
		"List":  func(b []byte) []byte { return List(b, []uint64{300, 301}) },
	} {
		whole := bytes.Repeat([]byte{0xee}, 64)
		first := call(whole[:3])
		again := call(whole[:3])
		kept := bytes.Clone(again)
		for i := range first[:cap(first)] {
			first[:cap(first)][i] = 0x11
		}
		if !bytes.Equal(whole, bytes.Repeat([]byte{0xee}, 64)) {
			t.Errorf("%s: its argument, or the room behind it, was changed", name)
		}
		if !bytes.Equal(again, kept) {
			t.Errorf("%s: two answers share memory", name)
		}
	}
	l := []uint64{1, 300, math.MaxUint64}
	List(nil, l[:2])
	if !slices.Equal(l, []uint64{1, 300, math.MaxUint64}) {
		t.Error("List: its list, or the room behind it, was changed")
	}
}
