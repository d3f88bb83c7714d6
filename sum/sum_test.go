package sum

import (
	"bytes"
	"encoding/binary"
	"hash/crc32"
	"hash/fnv"
	"math"
	"math/bits"
	"math/rand/v2"
	"sync"
	"testing"

	"clepsydra/api"
)

// longest is the greatest text of which 2.3 speaks.
const longest = 4092

// slowSum is 2.1's sum, bit by bit and without a table.
func slowSum(b []byte) uint32 {
	s := uint32(math.MaxUint32)
	for _, c := range b {
		s ^= uint32(c)
		for range 8 {
			s = s>>1 ^ s%2*0x82f63b78
		}
	}
	return s ^ math.MaxUint32
}

// text answers n bytes, the same at each run.
func text(n int) []byte {
	r := rand.New(rand.NewPCG(uint64(n), 2))
	b := make([]byte, n)
	for i := range b {
		b[i] = byte(r.Uint32())
	}
	return b
}

func sizes() []int {
	return []int{0, 1, 2, 3, 4, 5, 7, 8, 9, 31, 32, 33, 255, 256, 257, 1000, longest, longest + 1, 70000}
}

func turn(b []byte, bit int) {
	b[bit/8] ^= 1 << (bit % 8)
}

// spare answers b with room behind it, and a look at whether that room or b
// was changed.
func spare(b []byte) (own []byte, same func() bool) {
	all := append(append([]byte(nil), b...), "behind it"...)
	was := bytes.Clone(all)
	return all[:len(b)], func() bool { return bytes.Equal(all, was) }
}

func TestOfKnownTexts(t *testing.T) {
	for _, c := range []struct {
		text string
		want uint32
	}{
		{"", 0},
		{"a", 0xc1d04330},
		{"123456789", 0xe3069283},
		{string(make([]byte, 32)), 0x8a9136aa},
		{string(bytes.Repeat([]byte{0xff}, 32)), 0x62a8ab43},
	} {
		if got := Of([]byte(c.text)); got != c.want {
			t.Errorf("Of %q: %08x, want %08x", c.text, got, c.want)
		}
	}
	if Of(nil) != 0 || Of([]byte{}) != 0 {
		t.Error("Of nothing is 0")
	}
}

func TestOfEveryByteAndSize(t *testing.T) {
	castagnoli := crc32.MakeTable(crc32.Castagnoli)
	check := func(b []byte) {
		t.Helper()
		own, same := spare(b)
		got := Of(own)
		if got != slowSum(b) || got != crc32.Checksum(b, castagnoli) || !same() {
			t.Errorf("Of %d bytes: %08x, want %08x", len(b), got, slowSum(b))
		}
	}
	for c := range 256 {
		check([]byte{byte(c)})
		check([]byte{1, byte(c), 2})
	}
	for _, n := range sizes() {
		check(text(n))
		check(make([]byte, n))
	}
}

func TestPartsAreOneText(t *testing.T) {
	if Parts() != 0 || Parts(nil) != 0 || Parts(nil, []byte{}, nil) != 0 {
		t.Error("no parts, or empty ones, are no text")
	}
	if Parts([]byte("1234"), nil, []byte("5"), []byte{}, []byte("6789")) != 0xe3069283 {
		t.Error("empty parts between")
	}
	b := text(300)
	for i := range b {
		for _, j := range []int{i, i + (len(b)-i)/2, len(b)} {
			if Parts(b[:i], b[i:j], b[j:]) != Of(b) {
				t.Fatal("cut at", i, j)
			}
		}
	}
	if Parts([]byte("a"), []byte("b")) == Parts([]byte("b"), []byte("a")) {
		t.Error("the order is told")
	}
}

func TestPartsChangesNothing(t *testing.T) {
	one, oneSame := spare([]byte("one"))
	two, twoSame := spare([]byte("two"))
	l := [][]byte{one, two, []byte("not handed in")}
	Parts(l[:2]...)
	if !oneSame() || !twoSame() || string(l[0]) != "one" || string(l[1]) != "two" || string(l[2]) != "not handed in" {
		t.Error("changed", l)
	}
}

func TestSealAndOpen(t *testing.T) {
	if got := Seal([]byte("123456789")); string(got) != "123456789\x83\x92\x06\xe3" {
		t.Errorf("%x", got)
	}
	if got := Seal(nil); !bytes.Equal(got, make([]byte, 4)) {
		t.Errorf("Seal of nothing: %x", got)
	}
	for _, n := range sizes() {
		b := text(n)
		own, same := spare(b)
		sealed := Seal(own)
		want := binary.LittleEndian.AppendUint32(bytes.Clone(b), slowSum(b))
		if !bytes.Equal(sealed, want) || !same() {
			t.Fatalf("Seal of %d bytes", n)
		}
		in, inSame := spare(sealed)
		back, e := Open(in)
		if e != api.OK || !bytes.Equal(back, b) || !inSame() {
			t.Fatalf("Open of a Seal of %d bytes: %v", n, e)
		}
	}
}

func TestAnswersAreNewMemory(t *testing.T) {
	for _, n := range []int{0, 1, 9, 4092} {
		in, same := spare(text(n))
		sealed := Seal(in)
		clear(sealed[:cap(sealed)])
		if !same() {
			t.Error("Seal lends", n)
		}
		in, same = spare(Seal(text(n)))
		back, _ := Open(in)
		clear(back[:cap(back)])
		if !same() {
			t.Error("Open lends", n)
		}
	}
}

func TestOpenRefuses(t *testing.T) {
	check := func(what string, b []byte, want api.Errno) {
		t.Helper()
		in, same := spare(b)
		if back, e := Open(in); back != nil || e != want || !same() {
			t.Errorf("%s: %x, %v, want %v", what, back, e, want)
		}
	}
	check("nil", nil, api.ErrTorn)
	for n := range 4 {
		check("fewer than four bytes", Seal([]byte("abc"))[:n], api.ErrTorn)
		check("fewer than four zeros", make([]byte, n), api.ErrTorn)
	}
	for n := 4; n < 13; n++ {
		check("a torn Seal", Seal([]byte("123456789"))[:n], api.ErrSum)
	}
	check("four bytes that are no sum of nothing", []byte{0, 0, 0, 1}, api.ErrSum)
	check("the highest byte first", []byte("123456789\xe3\x06\x92\x83"), api.ErrSum)
	check("a sum not turned at its end", []byte("123456789\x7c\x6d\xf9\x1c"), api.ErrSum)
	check("a byte more behind", append(Seal([]byte("123456789")), 0), api.ErrSum)
	check("a byte more ahead", append([]byte{0}, Seal([]byte("123456789"))...), api.ErrSum)
	check("another text's sum", append([]byte("123456788"), Seal([]byte("123456789"))[9:]...), api.ErrSum)
}

func TestHash(t *testing.T) {
	for _, c := range []struct {
		text string
		want uint64
	}{
		{"", 0xcbf29ce484222325},
		{"a", 0xaf63dc4c8601ec8c},
		{"foobar", 0x85944171f73967e8},
	} {
		if got := Hash([]byte(c.text)); got != c.want {
			t.Errorf("Hash %q: %016x, want %016x", c.text, got, c.want)
		}
	}
	if Hash(nil) != Hash([]byte{}) {
		t.Error("nil is an empty list")
	}
	for _, n := range sizes() {
		h := fnv.New64a()
		h.Write(text(n))
		own, same := spare(text(n))
		if Hash(own) != h.Sum64() || !same() {
			t.Error("Hash of", n, "bytes")
		}
	}
}

func TestMix(t *testing.T) {
	l := []uint64{0, 1, 2, 255, 256, 0x0102030405060708, 1 << 40, 1 << 63, math.MaxUint64}
	for _, a := range l {
		for _, b := range l {
			both := binary.BigEndian.AppendUint64(binary.BigEndian.AppendUint64(nil, a), b)
			if Mix(a, b) != Hash(both) {
				t.Errorf("Mix %x %x", a, b)
			}
			if a != b && Mix(a, b) == Mix(b, a) {
				t.Errorf("Mix %x %x hangs not on their order", a, b)
			}
		}
	}
}

// faults answers for each bit of the longest Seal what its turning does to
// the sum that is told, laid over that of the text. A sum is linear: several
// bits do together what each does, laid over each other, and a change is
// missed just where that is 0.
var faults = sync.OnceValue(func() []uint32 {
	b := make([]byte, longest)
	whole := Of(b)
	var l []uint32
	for i := range 8 * longest {
		turn(b, i)
		l = append(l, Of(b)^whole)
		turn(b, i)
	}
	for i := range 32 {
		l = append(l, 1<<i)
	}
	return l
})

func TestThreeTurnedBitsAreFound(t *testing.T) {
	seen := map[uint32]int{}
	for i, f := range faults() {
		if j, ok := seen[f]; ok {
			t.Fatal("bits", j, "and", i, "turned are not found")
		}
		seen[f] = i
		// An odd number of faults of odd weight is odd again, so never 0.
		if bits.OnesCount32(f)%2 == 0 {
			t.Fatal("bit", i, "turned may be missed with two others")
		}
	}
}

func TestBitsInARowAreFound(t *testing.T) {
	l := faults()
	for from := range len(l) - 31 {
		if dependent(l[from : from+32]) {
			t.Fatal("some bits within 32 from", from, "on are not found")
		}
	}
}

// dependent answers whether some of l, laid over each other, are 0.
func dependent(l []uint32) bool {
	var basis [33]uint32
	for _, f := range l {
		for f != 0 && basis[bits.Len32(f)] != 0 {
			f ^= basis[bits.Len32(f)]
		}
		if f == 0 {
			return true
		}
		basis[bits.Len32(f)] = f
	}
	return false
}

// found turns the bits of a Seal of n bytes, and fails where Open is content.
func found(t *testing.T, sealed []byte, turned ...int) {
	t.Helper()
	b := bytes.Clone(sealed)
	for _, bit := range turned {
		turn(b, bit)
	}
	if back, e := Open(b); back != nil || e != api.ErrSum {
		t.Fatalf("%d bytes, bits %v: %v", len(sealed), turned, e)
	}
}

func TestOpenFindsTurnedBits(t *testing.T) {
	for _, n := range []int{0, 1, 3} {
		sealed := Seal(text(n))
		size := 8 * len(sealed)
		for i := range size {
			found(t, sealed, i)
			for j := range i {
				found(t, sealed, i, j)
				for k := range j {
					found(t, sealed, i, j, k)
				}
			}
		}
	}
	r := rand.New(rand.NewPCG(2, 3))
	for _, n := range []int{100, 1000, longest} {
		sealed := Seal(text(n))
		for range 2000 {
			found(t, sealed, r.Perm(8 * len(sealed))[:1+r.IntN(3)]...)
		}
	}
}

func TestOpenFindsBitsInARow(t *testing.T) {
	r := rand.New(rand.NewPCG(2, 4))
	for _, n := range []int{0, 1, 50, longest} {
		sealed := Seal(text(n))
		for range 3000 {
			from := r.IntN(8*len(sealed) - 31)
			pattern := r.Uint32() | 1<<r.IntN(32)
			var turned []int
			for i := range 32 {
				if pattern>>i&1 != 0 {
					turned = append(turned, from+i)
				}
			}
			found(t, sealed, turned...)
		}
	}
}

func TestTableIsMadeWhenFirstNeeded(t *testing.T) {
	made, table = sync.Once{}, [256]uint32{}
	if Parts([]byte("12345"), []byte("6789")) != 0xe3069283 {
		t.Error("the first sum")
	}
	if table != *crc32.MakeTable(crc32.Castagnoli) {
		t.Error("the table's words")
	}
	want := table
	table[0x12] ^= 1
	if Parts([]byte("123456789")); table == want {
		t.Error("the table was made again")
	}
	table = want
}

func TestNoAnswerHangsOnTheTable(t *testing.T) {
	b := text(300)
	sealed := binary.LittleEndian.AppendUint32(bytes.Clone(b), slowSum(b))
	Parts(b)
	right := table
	defer func() { table = right }()
	for i := range table {
		table[i] ^= uint32(i) | 1
	}
	if Of(b) != slowSum(b) || Parts(b[:100], b[100:]) != slowSum(b) || !bytes.Equal(Seal(b), sealed) {
		t.Error("a sum was taken from the table")
	}
	if back, e := Open(sealed); !bytes.Equal(back, b) || e != api.OK {
		t.Error("Open took the sum from the table", e)
	}
}

func FuzzNoCallPanics(f *testing.F) {
	for _, n := range []int{0, 1, 3, 4, 5, 100} {
		f.Add(text(n), uint64(n), uint64(math.MaxUint64))
		f.Add(Seal(text(n)), uint64(0), uint64(n))
	}
	f.Fuzz(func(t *testing.T, b []byte, x, y uint64) {
		in, same := spare(b)
		back, e := Open(in)
		switch {
		case len(b) < 4 && e != api.ErrTorn:
			t.Error(e)
		case len(b) >= 4 && (e == api.OK) != (slowSum(b[:len(b)-4]) == binary.LittleEndian.Uint32(b[len(b)-4:])):
			t.Error(e)
		case e == api.OK && !bytes.Equal(back, b[:len(b)-4]):
			t.Error(back)
		case e != api.OK && back != nil:
			t.Error(back, e)
		}
		if again, e := Open(Seal(in)); e != api.OK || !bytes.Equal(again, b) {
			t.Error(again, e)
		}
		if Of(in) != slowSum(b) || Parts(in, nil, in) != slowSum(append(bytes.Clone(b), b...)) {
			t.Error("sums")
		}
		Hash(in)
		Mix(x, y)
		if !same() {
			t.Error("changed")
		}
	})
}
