package edit

import (
	"bytes"
	"encoding/binary"
	"hash/crc32"
	"math"
	"math/rand/v2"
	"slices"
	"testing"

	"clepsydra/api"
)

const (
	topNum     = 1 << 30
	topVersion = 1 << 48
)

// files answers n Files with the Nums from 1 on, of all Levels.
func files(n int) []api.File {
	l := make([]api.File, n)
	for i := range l {
		l[i] = api.File{Level: i % 4, Num: i + 1}
	}
	return l
}

// nums answers the Nums from 1 to n.
func nums(n int) []int {
	l := make([]int, n)
	for i := range l {
		l[i] = i + 1
	}
	return l
}

func file(level, num int) api.File { return api.File{Level: level, Num: num} }

func row(l ...api.File) []api.File { return l }

// view answers one with three Files, in which each number is another.
func view() api.View {
	return api.View{Log: 9, Files: row(file(3, 4), file(0, 300), file(1, 2)), Floor: 11, Cert: 12, At: 13, Lease: 14}
}

// widest answers an Edit no other one of which has more bytes.
func widest() api.Edit {
	e := api.Edit{Log: topNum, Floor: topVersion, Cert: topVersion, At: topVersion, Lease: topVersion}
	for i := range 40 {
		e.Drop = append(e.Drop, topNum-40-i)
		e.Add = append(e.Add, file(3, topNum-i))
	}
	return e
}

// four sets one of the numbers that go up to 2^48.
var four = [4]string{"Floor", "Cert", "At", "Lease"}

func viewWith(which string, n uint64) api.View {
	v := view()
	*map[string]*uint64{"Floor": &v.Floor, "Cert": &v.Cert, "At": &v.At, "Lease": &v.Lease}[which] = n
	return v
}

func editWith(which string, n uint64) api.Edit {
	e := api.Edit{}
	*map[string]*uint64{"Floor": &e.Floor, "Cert": &e.Cert, "At": &e.At, "Lease": &e.Lease}[which] = n
	return e
}

// good answers Edits that Put takes, one at each bound among them.
func good() []api.Edit {
	l := []api.Edit{
		{}, {Log: 1}, {Log: topNum}, {Drop: []int{1}}, {Drop: []int{topNum}}, {Drop: []int{7, 7}}, {Drop: nums(40)}, {Drop: slices.Repeat([]int{topNum}, 40)},
		{Add: row(file(0, 1))}, {Add: row(file(3, topNum))}, {Add: row(file(2, 5), file(1, 5))}, {Add: files(40)}, {Add: slices.Repeat(row(file(3, 9)), 40)},
		{Drop: []int{300, 5}, Add: row(file(3, 4), file(0, 300)), Log: 2, Floor: 3, Cert: 4, At: 5, Lease: 6},
		{Log: 127, Floor: 128, Cert: 16383, At: 16384, Lease: 1 << 40},
		Whole(view()), widest(),
	}
	for _, which := range four {
		l = append(l, editWith(which, 1), editWith(which, topVersion))
	}
	return l
}

// bad answers Edits that Put refuses, each by one of 15.2's bounds. No other
// field of theirs is at fault.
func bad() []api.Edit {
	var l []api.Edit
	for _, n := range []int{0, -1, topNum + 1, math.MinInt, math.MaxInt} {
		l = append(l, api.Edit{Drop: []int{n}}, api.Edit{Drop: []int{3, n, 4}}, api.Edit{Drop: append(nums(39), n)},
			api.Edit{Add: row(file(0, n))}, api.Edit{Add: row(file(0, 3), file(3, n), file(0, 4))}, api.Edit{Add: append(files(39), file(0, n))})
		if n != 0 {
			l = append(l, api.Edit{Log: n})
		}
	}
	for _, n := range []int{-1, 4, math.MinInt, math.MaxInt} {
		l = append(l, api.Edit{Add: row(file(n, 1))}, api.Edit{Add: row(file(0, 3), file(n, 1), file(0, 4))}, api.Edit{Add: append(files(39), file(n, 99))})
	}
	for _, n := range []int{41, 42, 127, 128, 300, 20000} {
		l = append(l, api.Edit{Drop: nums(n)}, api.Edit{Add: files(n)})
	}
	for _, which := range four {
		l = append(l, editWith(which, topVersion+1), editWith(which, math.MaxUint64))
	}
	return l
}

// The second hand: Views, bytes and Edits by the words of 15.1, 15.2, 3.1 and 1.1.

func fine(v api.View) bool {
	seen := map[int]bool{}
	for _, f := range v.Files {
		if f.Level < 0 || f.Level > 3 || f.Num < 1 || f.Num > topNum || seen[f.Num] {
			return false
		}
		seen[f.Num] = true
	}
	return v.Log >= 1 && v.Log <= topNum && len(v.Files) <= 40 && max(v.Floor, v.Cert, v.At, v.Lease) <= topVersion
}

func plainApply(v api.View, e api.Edit) (api.View, bool) {
	v.Files = slices.Clone(v.Files)
	for _, n := range e.Drop {
		there := len(v.Files)
		v.Files = slices.DeleteFunc(v.Files, func(f api.File) bool { return f.Num == n })
		if len(v.Files) == there {
			return api.View{}, false
		}
	}
	for _, f := range e.Add {
		v.Files = append(v.Files, f)
	}
	if e.Log != 0 {
		v.Log = e.Log
	}
	if e.Floor != 0 {
		v.Floor = e.Floor
	}
	if e.Cert != 0 {
		v.Cert = e.Cert
	}
	if e.At != 0 {
		v.At = e.At
	}
	if e.Lease != 0 {
		v.Lease = e.Lease
	}
	if !fine(v) {
		return api.View{}, false
	}
	return v, true
}

func seal(b []byte) []byte {
	s := crc32.Checksum(b, crc32.MakeTable(crc32.Castagnoli))
	return binary.LittleEndian.AppendUint32(bytes.Clone(b), s)
}

func sealed(b []byte) bool {
	return bytes.Equal(seal(b[:len(b)-4]), b)
}

// head answers a frame's sealed head, also one that may not be.
func head(kind, n int) []byte {
	return seal(append([]byte{byte(kind)}, binary.BigEndian.AppendUint32(nil, uint32(n))[1:]...))
}

func framed(kind int, body []byte) []byte {
	return append(head(kind, len(body)), seal(body)...)
}

// coded writes e as 15.2 says it, also one that may not be.
func coded(e api.Edit) []byte {
	b := binary.AppendUvarint(nil, uint64(len(e.Drop)))
	for _, n := range e.Drop {
		b = binary.AppendUvarint(b, uint64(n))
	}
	b = binary.AppendUvarint(b, uint64(len(e.Add)))
	for _, f := range e.Add {
		b = binary.AppendUvarint(binary.AppendUvarint(b, uint64(f.Level)), uint64(f.Num))
	}
	return numbers(b, uint64(e.Log), e.Floor, e.Cert, e.At, e.Lease)
}

func numbers(b []byte, l ...uint64) []byte {
	for _, n := range l {
		b = binary.AppendUvarint(b, n)
	}
	return b
}

// written answers the bytes of the frames of these Edits.
func written(l ...api.Edit) []byte {
	var b []byte
	for _, e := range l {
		b = append(b, framed(6, coded(e))...)
	}
	return b
}

func putOk(e api.Edit) bool {
	for _, n := range e.Drop {
		if n < 1 || n > topNum {
			return false
		}
	}
	for _, f := range e.Add {
		if f.Num < 1 || f.Num > topNum || f.Level < 0 || f.Level > 3 {
			return false
		}
	}
	return len(e.Drop) <= 40 && len(e.Add) <= 40 && e.Log >= 0 && e.Log <= topNum && max(e.Floor, e.Cert, e.At, e.Lease) <= topVersion
}

// decoded answers the Edit that a Put wrote as b, and false if none did: one
// that is coded otherwise than b is not b's.
func decoded(b []byte) (e api.Edit, ok bool) {
	left := b
	number := func() uint64 {
		n, size := binary.Uvarint(left)
		left = left[max(size, 0):]
		return n
	}
	for range min(number(), 41) {
		e.Drop = append(e.Drop, int(number()))
	}
	for range min(number(), 41) {
		e.Add = append(e.Add, file(int(number()), int(number())))
	}
	e.Log = int(number())
	e.Floor, e.Cert, e.At, e.Lease = number(), number(), number(), number()
	if !putOk(e) || !bytes.Equal(coded(e), b) {
		return api.Edit{}, false
	}
	return e, true
}

func plainReplay(b []byte) (v api.View, end int, e api.Errno) {
	for len(b)-end >= 8 {
		left := b[end:]
		n := int(left[1])<<16 | int(left[2])<<8 | int(left[3])
		if !sealed(left[:8]) || left[0] < 1 || left[0] > 100 || n > 60000 {
			return api.View{}, 0, api.ErrCorrupt
		}
		if len(left) < 8+n+4 {
			break
		}
		one, ok := decoded(left[8 : 8+n])
		if !sealed(left[8:8+n+4]) || left[0] != 6 || !ok {
			return api.View{}, 0, api.ErrCorrupt
		}
		if v, ok = plainApply(v, one); !ok {
			return api.View{}, 0, api.ErrCorrupt
		}
		end += 8 + n + 4
	}
	if end == 0 {
		return api.View{}, 0, api.ErrCorrupt
	}
	return v, end, api.OK
}

func join(parts ...[]byte) []byte {
	return bytes.Join(parts, nil)
}

func turn(b []byte, bit int) {
	b[bit/8] ^= 1 << (bit % 8)
}

// text answers n bytes, the same at each run.
func text(n int) []byte {
	r := rand.New(rand.NewPCG(uint64(n), 15))
	b := make([]byte, n)
	for i := range b {
		b[i] = byte(r.Uint32())
	}
	return b
}

func sameView(a, b api.View) bool {
	return slices.Equal(a.Files, b.Files) && a.Log == b.Log && [4]uint64{a.Floor, a.Cert, a.At, a.Lease} == [4]uint64{b.Floor, b.Cert, b.At, b.Lease}
}

func sameEdit(a, b api.Edit) bool {
	return slices.Equal(a.Drop, b.Drop) && slices.Equal(a.Add, b.Add) && a.Log == b.Log &&
		[4]uint64{a.Floor, a.Cert, a.At, a.Lease} == [4]uint64{b.Floor, b.Cert, b.At, b.Lease}
}

// spare answers l with room behind it, and a look at whether that room or l was
// changed.
func spare[T comparable](l []T, behind ...T) (own []T, same func() bool) {
	all := append(slices.Clone(l), slices.Repeat(behind, 50)...)
	was := slices.Clone(all)
	return all[:len(l)], func() bool { return slices.Equal(all, was) }
}

// spoil changes all of l, its spare room too.
func spoil[T any](l []T, by T) {
	for i := range l[:cap(l)] {
		l[:cap(l)][i] = by
	}
}

// lentView answers v with lists that have room behind them, and a look at
// whether any of it was changed.
func lentView(v api.View) (api.View, func() bool) {
	own := v
	var same func() bool
	own.Files, same = spare(v.Files, file(2, 77), file(-1, -1))
	return own, same
}

func lentEdit(e api.Edit) (api.Edit, func() bool) {
	own := e
	var sameDrop, sameAdd func() bool
	own.Drop, sameDrop = spare(e.Drop, 78, -2)
	own.Add, sameAdd = spare(e.Add, file(2, 79), file(-3, -3))
	return own, func() bool { return sameDrop() && sameAdd() }
}

func spoilView(v api.View) {
	spoil(v.Files, file(-8, -8))
}

func spoilEdit(e api.Edit) {
	spoil(e.Drop, -9)
	spoil(e.Add, file(-9, -9))
}

func cloneView(v api.View) api.View {
	v.Files = slices.Clone(v.Files)
	return v
}

func cloneEdit(e api.Edit) api.Edit {
	e.Drop, e.Add = slices.Clone(e.Drop), slices.Clone(e.Add)
	return e
}

// applied asks Apply, and fails where it changes what it is given, lends or
// keeps it, or tells more than a false.
func applied(t *testing.T, v api.View, e api.Edit) (api.View, bool) {
	t.Helper()
	inView, sameInView := lentView(v)
	inEdit, sameInEdit := lentEdit(e)
	first, _ := Apply(inView, inEdit)
	own := cloneView(first)
	spoilView(first)
	if !sameInView() || !sameInEdit() {
		t.Fatalf("Apply of %v to %v changes what it is given, or lends it", e, v)
	}
	got, ok := Apply(inView, inEdit)
	spoilView(inView)
	spoilEdit(inEdit)
	if !sameView(got, own) {
		t.Fatalf("Apply of %v to %v is %v, then %v", e, v, own, got)
	}
	if !ok && !sameView(got, api.View{}) {
		t.Fatalf("Apply of %v to %v is %v beside false", e, v, got)
	}
	return got, ok
}

// wholed asks Whole, likewise.
func wholed(t *testing.T, v api.View) api.Edit {
	t.Helper()
	in, same := lentView(v)
	first := Whole(in)
	own := cloneEdit(first)
	spoilEdit(first)
	if !same() {
		t.Fatalf("Whole of %v changes what it is given, or lends it", v)
	}
	got := Whole(in)
	spoilView(in)
	if !sameEdit(got, own) {
		t.Fatalf("Whole of %v is %v, then %v", v, own, got)
	}
	return got
}

// put asks Put, likewise.
func put(t *testing.T, b []byte, e api.Edit) ([]byte, api.Errno) {
	t.Helper()
	in, same := spare(b, 0xaa, 0xbb)
	inEdit, sameEdit := lentEdit(e)
	first, _ := Put(in, inEdit)
	own := bytes.Clone(first)
	spoil(first, 0x55)
	if !same() || !sameEdit() {
		t.Fatalf("Put of %v behind %.40x changes what it is given, or lends it", e, b)
	}
	got, err := Put(in, inEdit)
	spoil(in, 0x66)
	spoilEdit(inEdit)
	if !bytes.Equal(got, own) {
		t.Fatalf("Put of %v behind %.40x is %.60x, then %.60x", e, b, own, got)
	}
	if err != api.OK && len(got) != 0 {
		t.Fatalf("Put of %v behind %.40x is %.60x beside %v", e, b, got, err)
	}
	return got, err
}

// read asks Read, likewise.
func read(t *testing.T, body []byte) (api.Edit, api.Errno) {
	t.Helper()
	in, same := spare(body, 0, 1)
	first, _ := Read(in)
	own := cloneEdit(first)
	spoil(first.Drop, -9)
	if !slices.Equal(first.Add, own.Add) {
		t.Fatalf("Read of %.60x answers lists that share memory", body)
	}
	spoil(first.Add, file(-9, -9))
	got, err := Read(in)
	if !same() {
		t.Fatalf("Read of %.60x changes what it is given", body)
	}
	spoil(in, 0x66)
	if !sameEdit(got, own) {
		t.Fatalf("Read of %.60x is %v, then %v", body, own, got)
	}
	if err != api.OK && !sameEdit(got, api.Edit{}) {
		t.Fatalf("Read of %.60x is %v beside %v", body, got, err)
	}
	return got, err
}

// replayed asks Replay, likewise.
func replayed(t *testing.T, b []byte) (api.View, int, api.Errno) {
	t.Helper()
	in, same := spare(b, written(api.Edit{Log: 7})...)
	first, _, _ := Replay(in)
	own := cloneView(first)
	spoilView(first)
	got, end, e := Replay(in)
	if !same() {
		t.Fatalf("Replay of %.60x changes what it is given", b)
	}
	spoil(in, 0x66)
	if !sameView(got, own) {
		t.Fatalf("Replay of %.60x is %v, then %v", b, own, got)
	}
	if e != api.OK && (!sameView(got, api.View{}) || end != 0) {
		t.Fatalf("Replay of %.60x is %v, %d beside %v", b, got, end, e)
	}
	return got, end, e
}

// sames asks Same both ways round, and fails where it changes what it is given,
// or hangs on the order.
func sames(t *testing.T, a, b api.View) bool {
	t.Helper()
	inA, sameA := lentView(a)
	inB, sameB := lentView(b)
	got := Same(inA, inB)
	if Same(inB, inA) != got || !sameA() || !sameB() {
		t.Fatalf("Same of %v and %v changes them, or hangs on their order", a, b)
	}
	return got
}

func ok(t *testing.T, why string, v api.View, want bool) {
	t.Helper()
	in, same := lentView(v)
	if got := Ok(in); got != want || !same() {
		t.Errorf("%s: Ok of %.200v is %v", why, v, got)
	}
}

// makes fails where e does not make this of v.
func makes(t *testing.T, why string, v api.View, e api.Edit, want api.View) {
	t.Helper()
	if got, ok := applied(t, v, e); !sameView(got, want) || !ok {
		t.Errorf("%s: %v of %v is %v, %v, not %v", why, e, v, got, ok, want)
	}
}

func refused(t *testing.T, why string, v api.View, e api.Edit) {
	t.Helper()
	if got, ok := applied(t, v, e); ok {
		t.Errorf("%s: %v of %v is %v", why, e, v, got)
	}
}

// replays fails where b does not tell this View, up to end.
func replays(t *testing.T, why string, b []byte, want api.View, end int) {
	t.Helper()
	if got, at, e := replayed(t, b); !sameView(got, want) || at != end || e != api.OK {
		t.Fatalf("%s: Replay is %v to %d, %v, not %v to %d", why, got, at, e, want, end)
	}
}

func corrupt(t *testing.T, why string, b []byte) {
	t.Helper()
	if v, end, e := replayed(t, b); e != api.ErrCorrupt {
		t.Errorf("%s: Replay of %.60x is %v, %d, %v", why, b, v, end, e)
	}
}
