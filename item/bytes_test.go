package item

import (
	"bytes"
	"encoding/binary"
	"encoding/hex"
	"math"
	"math/rand/v2"
	"slices"
	"sync"
	"testing"

	"clepsydra/api"
)

// coded writes l as 5.2 says it, also items that are not Ok, and tells where
// each of its pieces ends.
func coded(l ...api.Item) (b []byte, ends []int) {
	piece := func(grown []byte) {
		b = grown
		ends = append(ends, len(b))
	}
	piece(binary.AppendUvarint(b, uint64(len(l))))
	for _, x := range l {
		piece(append(b, byte(x.Series)))
		piece(append(b, byte(x.Kind)))
		piece(binary.AppendUvarint(b, x.Time))
		piece(binary.AppendUvarint(b, x.Version))
		piece(binary.AppendVarint(b, x.Value))
	}
	return b, ends
}

// row answers n items that are Ok, the same at each run, in no order.
func row(n int) []api.Item {
	all := good()
	r := rand.New(rand.NewPCG(uint64(n), 5))
	l := make([]api.Item, n)
	for i := range l {
		l[i] = all[r.IntN(len(all))]
	}
	return l
}

func unhex(t *testing.T, s string) []byte {
	t.Helper()
	b, err := hex.DecodeString(s)
	if err != nil {
		t.Fatal(err)
	}
	return b
}

// spare answers b with room behind it, and a look at whether that room or b
// was changed.
func spare(b []byte) (own []byte, same func() bool) {
	all := append(bytes.Clone(b), "behind it, where items may fit"...)
	was := bytes.Clone(all)
	return all[:len(b)], func() bool { return bytes.Equal(all, was) }
}

// spareItems does for items what spare does for bytes.
func spareItems(l []api.Item) (own []api.Item, same func() bool) {
	all := append(slices.Clone(l), sample(9, 9, 9, 9), api.Item{})
	was := slices.Clone(all)
	return all[:len(l)], func() bool { return slices.Equal(all, was) }
}

// write asks Bytes, and fails where it changes what it was given, lends it, or
// tells more than an error.
func write(t *testing.T, b []byte, l []api.Item) ([]byte, api.Errno) {
	t.Helper()
	in, inSame := spare(b)
	items, itemsSame := spareItems(l)
	got, e := Bytes(in, items)
	told := bytes.Clone(got)
	clear(got[:cap(got)])
	if !inSame() || !itemsSame() {
		t.Fatal("Bytes changed or lent what it was given")
	}
	if e != api.OK && got != nil {
		t.Fatalf("beside error %d: %x", e, told)
	}
	return told, e
}

// read asks Read, and fails where it changes what it was given, or tells more
// than an error.
func read(t *testing.T, b []byte) ([]api.Item, api.Errno) {
	t.Helper()
	in, same := spare(b)
	l, e := Read(in)
	if !same() {
		t.Fatal("Read changed what it was given")
	}
	if e != api.OK && l != nil {
		t.Fatalf("beside error %d: %v", e, l)
	}
	return l, e
}

func refused(t *testing.T, what string, b []byte, want api.Errno) {
	t.Helper()
	if _, e := read(t, b); e != want {
		t.Errorf("%s: error %d, want %d", what, e, want)
	}
}

func sizes() []int { return []int{0, 1, 2, 127, 128, 1999, 2000} }

// 5.2

func TestBytes(t *testing.T) {
	for _, c := range []struct {
		b    string
		l    []api.Item
		want string
	}{
		{"", nil, "00"},
		{"", []api.Item{}, "00"},
		{"09", nil, "0900"},
		{"", []api.Item{tomb(3, 5)}, "010301000500"},
		{"80", []api.Item{sample(3, 300, 5, -1)}, "80010302ac020501"},
		{"", []api.Item{sample(255, 1<<40, 1<<48, math.MinInt64)}, "01ff02808080808020" + "80808080808040" + "ffffffffffffffffff01"},
		{"", []api.Item{sample(0, 0, 1, math.MaxInt64), tomb(0, 1)}, "0200020001feffffffffffffffff010001000100"},
	} {
		got, e := write(t, unhex(t, c.b), c.l)
		if hex.EncodeToString(got) != c.want || e != api.OK {
			t.Errorf("Bytes(%s, %v) = %x, %v, want %s", c.b, c.l, got, e, c.want)
		}
	}
}

func TestBytesOfManyItems(t *testing.T) {
	for _, n := range sizes() {
		for _, ahead := range []string{"", "x", "bytes ahead"} {
			want, _ := coded(row(n)...)
			got, e := write(t, []byte(ahead), row(n))
			if string(got) != ahead+string(want) || e != api.OK {
				t.Fatalf("%d items behind %q: %d bytes, error %d", n, ahead, len(got), e)
			}
		}
	}
	for _, x := range good() {
		want, _ := coded(x)
		if got, e := Bytes(nil, []api.Item{x}); !bytes.Equal(got, want) || e != api.OK {
			t.Fatalf("%+v: %x, error %d, want %x", x, got, e, want)
		}
	}
}

func TestBytesRefusesLongLists(t *testing.T) {
	for _, n := range []int{2001, 2002, 4000} {
		if _, e := write(t, []byte("ahead"), row(n)); e != api.ErrLong {
			t.Errorf("%d items: error %d", n, e)
		}
		for _, at := range []int{0, 1000, 2000} {
			l := row(n)
			l[at] = api.Item{}
			if _, e := write(t, nil, l); e != api.ErrLong {
				t.Errorf("%d items, the one at %d not Ok: error %d", n, at, e)
			}
		}
	}
	if _, e := write(t, nil, make([]api.Item, 2001)); e != api.ErrLong {
		t.Error("2001 items that are not Ok:", e)
	}
}

func TestBytesRefusesItems(t *testing.T) {
	for _, x := range bad() {
		for _, l := range [][]api.Item{
			{x}, {x, x},
			{x, tomb(1, 1), sample(1, 1, 1, 1)},
			{tomb(1, 1), x, sample(1, 1, 1, 1)},
			{tomb(1, 1), sample(1, 1, 1, 1), x},
		} {
			if _, e := write(t, []byte("ahead"), l); e != api.ErrArg {
				t.Errorf("%+v: error %d", l, e)
			}
		}
	}
	for _, n := range []int{1, 128, 2000} {
		for _, at := range []int{0, n / 2, n - 1} {
			l := row(n)
			l[at].Version = 0
			if _, e := write(t, nil, l); e != api.ErrArg {
				t.Errorf("%d items, the one at %d not Ok: error %d", n, at, e)
			}
		}
	}
}

func TestRead(t *testing.T) {
	for _, c := range []struct {
		in   string
		want []api.Item
	}{
		{"00", nil},
		{"010301000500", []api.Item{tomb(3, 5)}},
		{"010302ac020501", []api.Item{sample(3, 300, 5, -1)}},
		{"02000200010000020001feffffffffffffffff01", []api.Item{sample(0, 0, 1, 0), sample(0, 0, 1, math.MaxInt64)}},
		{"01ff02808080808020" + "80808080808040" + "ffffffffffffffffff01", []api.Item{sample(255, 1<<40, 1<<48, math.MinInt64)}},
	} {
		if got, e := read(t, unhex(t, c.in)); !slices.Equal(got, c.want) || e != api.OK {
			t.Errorf("Read(%s) = %v, %v, want %v", c.in, got, e, c.want)
		}
	}
}

func TestReadRefuses(t *testing.T) {
	for _, c := range []struct {
		in, why string
		want    api.Errno
	}{
		{"", "no bytes", api.ErrTorn},
		{"80", "a count that is cut", api.ErrTorn},
		{"ffffffffffffffffff", "a count that is cut", api.ErrTorn},
		{"8000", "a count that could be shorter", api.ErrForm},
		{"8100" + "0301000500", "a count that could be shorter", api.ErrForm},
		{"ffffffffffffffffff02", "a count above 2^64 - 1", api.ErrForm},
		{"8080808080808080808001", "a count of eleven bytes", api.ErrForm},

		{"d10f", "2001 and nothing behind", api.ErrLong},
		{"d10f0301000500", "2001, cut", api.ErrLong},
		{"d10f0300", "2001, and one that is not Ok", api.ErrLong},
		{"ffff03", "65535", api.ErrLong},
		{"808080808001", "2^36", api.ErrLong},
		{"80808080808080808001", "2^63", api.ErrLong},
		{"ffffffffffffffffff01", "2^64 - 1", api.ErrLong},
		{"d00f", "2000 and nothing behind", api.ErrTorn},

		{"0001", "none, and a byte", api.ErrForm},
		{"0000", "none, and a byte", api.ErrForm},
		{"01030100050000", "one, and a byte", api.ErrForm},
		{"0103010005000301000600", "one, and another", api.ErrForm},

		{"0203010005000301", "the second is cut", api.ErrTorn},
		{"020303000100", "a Kind that is none, then nothing", api.ErrTorn},
		{"02030300010003", "a Kind that is none, then one that is cut", api.ErrTorn},
		{"0203010005000303000100", "the second's Kind is none", api.ErrForm},
		{"0203030001000301000500", "the first's Kind is none", api.ErrForm},

		{"010302800001" + "00", "a Time that could be shorter", api.ErrForm},
		{"01030200810000", "a Version that could be shorter", api.ErrForm},
		{"01030200018000", "a Value that could be shorter", api.ErrForm},
		{"0103020001ffffffffffffffffff02", "a Value above 2^64 - 1", api.ErrForm},
		{"0103028080808080808080808001" + "0100", "a Time of eleven bytes", api.ErrForm},
		{"0203028000", "a Time that could be shorter, then nothing", api.ErrForm},

		{"01030000" + "0100", "Kind 0", api.ErrForm},
		{"0103ff000100", "Kind 255", api.ErrForm},
		{"010302000000", "Version 0", api.ErrForm},
		{"0103020081808080808040" + "00", "Version 2^48 + 1", api.ErrForm},
		{"01030281808080802001" + "00", "Time 2^40 + 1", api.ErrForm},
		{"010302ffffffffffffffffff010100", "Time 2^64 - 1", api.ErrForm},
		{"010301010500", "a delete with a Time", api.ErrForm},
		{"010301000501", "a delete with a Value", api.ErrForm},
	} {
		refused(t, c.why+" ("+c.in+")", unhex(t, c.in), c.want)
	}
}

func TestReadRefusesItems(t *testing.T) {
	for _, x := range bad() {
		if x.Series != int(byte(x.Series)) || x.Kind != int(byte(x.Kind)) {
			continue // no bytes tell such a one
		}
		for _, l := range [][]api.Item{
			{x}, {x, x},
			{x, tomb(1, 1), sample(1, 1, 1, 1)},
			{tomb(1, 1), x, sample(1, 1, 1, 1)},
			{tomb(1, 1), sample(1, 1, 1, 1), x},
		} {
			b, _ := coded(l...)
			refused(t, "one that is not Ok", b, api.ErrForm)
			refused(t, "one that is not Ok, and a byte more", append(b, 0), api.ErrForm)
			refused(t, "one that is not Ok, cut", b[:len(b)-1], api.ErrTorn)
		}
	}
	for _, at := range []int{0, 1, 1000, 1998, 1999} {
		l := row(2000)
		l[at].Kind = 3
		b, _ := coded(l...)
		refused(t, "one of 2000 that is not Ok", b, api.ErrForm)
	}
	long, _ := coded(row(2001)...)
	refused(t, "2001 whole items", long, api.ErrLong)
}

func TestBytesThatEndTooEarlyAreTorn(t *testing.T) {
	for _, n := range []int{0, 1, 2, 127, 128} {
		b, _ := coded(row(n)...)
		for end := range b {
			refused(t, "cut", b[:end], api.ErrTorn)
		}
	}
	b, ends := coded(row(2000)...)
	for i, end := range ends[:len(ends)-1] {
		if i%97 != 0 && min(i, len(ends)-i) > 50 {
			continue // the whole row is read again at each cut
		}
		refused(t, "2000, cut between two pieces", b[:end], api.ErrTorn)
		refused(t, "2000, cut ahead of a piece's end", b[:end-1], api.ErrTorn)
	}
	refused(t, "2000, the last byte cut", b[:len(b)-1], api.ErrTorn)
}

func TestBytesThatAreLeftAreRefused(t *testing.T) {
	for _, n := range sizes() {
		b, _ := coded(row(n)...)
		for _, behind := range []string{"\x00", "\x01", "\x80", "\xff", "more bytes"} {
			refused(t, "bytes are left", append(bytes.Clone(b), behind...), api.ErrForm)
		}
	}
}

// 5.3, W8

func TestWhatIsWrittenIsRead(t *testing.T) {
	check := func(l []api.Item) {
		t.Helper()
		b, e := write(t, nil, l)
		if e != api.OK {
			t.Fatal(len(l), e)
		}
		if back, e := read(t, b); !slices.Equal(back, l) || e != api.OK {
			t.Fatal(len(l), len(back), e)
		}
	}
	for _, n := range sizes() {
		check(row(n))
	}
	for _, x := range good() {
		check([]api.Item{x})
		check([]api.Item{x, x})
	}
	for l := range slices.Chunk(good(), 2000) {
		check(l)
		slices.Reverse(l)
		check(l)
	}
}

// 5.4, and the document's rule 3

func TestReadIsNewMemory(t *testing.T) {
	b, _ := coded(row(100)...)
	first, _ := Read(b)
	again, _ := Read(b)
	clear(first[:cap(first)])
	clear(b)
	if !slices.Equal(again, row(100)) {
		t.Error("two lists share memory, or lend the bytes'")
	}
}

func TestSeveralAtOnce(t *testing.T) {
	b, _ := coded(row(500)...)
	l := row(500)
	var all sync.WaitGroup
	for range 8 {
		all.Go(func() {
			got, e := Bytes(nil, l)
			back, why := Read(b)
			if !bytes.Equal(got, b) || e != api.OK || !slices.Equal(back, l) || why != api.OK {
				t.Error(e, why)
			}
		})
	}
	all.Wait()
}

// taken reads a number as 1.1 says it, by another hand than package num's.
func taken(b []byte) (n uint64, size int, e api.Errno) {
	n, size = binary.Uvarint(b)
	if size == 0 && len(b) < 10 {
		return 0, 0, api.ErrTorn
	}
	if size <= 0 || len(binary.AppendUvarint(nil, n)) != size {
		return 0, 0, api.ErrForm
	}
	return n, size, api.OK
}

// want reads b as 5.2 says it.
func want(b []byte) ([]api.Item, api.Errno) {
	n, at, e := taken(b)
	if e != api.OK {
		return nil, e
	}
	if n > 2000 {
		return nil, api.ErrLong
	}
	l := make([]api.Item, n)
	for i := range l {
		if len(b)-at < 2 {
			return nil, api.ErrTorn
		}
		l[i].Series, l[i].Kind = int(b[at]), int(b[at+1])
		at += 2
		var numbers [3]uint64
		for j := range numbers {
			n, size, e := taken(b[at:])
			if e != api.OK {
				return nil, e
			}
			numbers[j] = n
			at += size
		}
		l[i].Time, l[i].Version = numbers[0], numbers[1]
		l[i].Value, _ = binary.Varint(binary.AppendUvarint(nil, numbers[2]))
	}
	if at < len(b) || slices.ContainsFunc(l, func(x api.Item) bool { return !Ok(x) }) {
		return nil, api.ErrForm
	}
	return l, api.OK
}

func agree(t *testing.T, b []byte) {
	t.Helper()
	l, e := read(t, b)
	wantItems, wantErr := want(b)
	if !slices.Equal(l, wantItems) || e != wantErr {
		t.Fatalf("Read(%x) = %v, %d, want %v, %d", b, l, e, wantItems, wantErr)
	}
	if e != api.OK {
		return
	}
	if again, e := write(t, nil, l); !bytes.Equal(again, b) || e != api.OK {
		t.Fatalf("Bytes(Read(%x)) = %x, %d", b, again, e)
	}
}

func TestReadOfChangedBytes(t *testing.T) {
	r := rand.New(rand.NewPCG(5, 2))
	for n := range 20 {
		b, _ := coded(row(n)...)
		for at := range b {
			for range 20 {
				changed := bytes.Clone(b)
				changed[at] = byte(r.Uint32())
				agree(t, changed)
			}
			agree(t, slices.Delete(bytes.Clone(b), at, at+1))
			agree(t, slices.Insert(bytes.Clone(b), at, byte(r.Uint32())))
		}
	}
}

func TestReadOfAllShortBytes(t *testing.T) {
	for i := range 1 << 16 {
		for _, head := range []string{"", "01", "0103", "01030200", "0103020001"} {
			agree(t, append(unhex(t, head), byte(i>>8), byte(i)))
		}
	}
}

func FuzzRead(f *testing.F) {
	for _, n := range sizes()[:4] {
		b, _ := coded(row(n)...)
		f.Add(b)
	}
	for _, x := range bad() {
		b, _ := coded(x)
		f.Add(b)
	}
	f.Add([]byte(nil))
	f.Fuzz(func(t *testing.T, b []byte) { agree(t, b) })
}
