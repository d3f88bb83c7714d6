package bloom

import (
	"bytes"
	"encoding/binary"
	"hash/fnv"
	"math"
	"math/rand/v2"
	"slices"
	"testing"

	"clepsydra/api"
)

// plain is a second Filter, written by the words of 10.1: bits, one by one.
type plain struct {
	k   uint64
	set []bool
}

func plainNew(n, bits int) (*plain, api.Errno) {
	if n < 0 || n > 10000 || bits < 1 || bits > 20 {
		return nil, api.ErrArg
	}
	all := max(n*bits, 64)
	for all%8 != 0 {
		all++
	}
	return &plain{k: uint64(max(bits*7/10, 1)), set: make([]bool, all)}, api.OK
}

func (p *plain) places(key []byte) []uint64 {
	hash := fnv.New64a()
	hash.Write(key)
	low, high := hash.Sum64()%(1<<32), hash.Sum64()/(1<<32)
	var l []uint64
	for i := range p.k {
		l = append(l, (low+i*high)%(1<<32)%uint64(len(p.set)))
	}
	return l
}

func (p *plain) add(key []byte) {
	for _, at := range p.places(key) {
		p.set[at] = true
	}
}

func (p *plain) has(key []byte) bool {
	return !slices.ContainsFunc(p.places(key), func(at uint64) bool { return !p.set[at] })
}

func (p *plain) bytes() []byte {
	b := binary.AppendUvarint(binary.AppendUvarint(nil, p.k), uint64(len(p.set)/8))
	for eight := range slices.Chunk(p.set, 8) {
		c := byte(0)
		for i, on := range eight {
			if on {
				c += 1 << i
			}
		}
		b = append(b, c)
	}
	return b
}

func (p *plain) ones() int {
	n := 0
	for _, on := range p.set {
		if on {
			n++
		}
	}
	return n
}

// take reads a number as 1.1 says it: one that is not written as it would be
// has no form, and one that is cut is torn.
func take(b []byte) (uint64, []byte, api.Errno) {
	n, size := binary.Uvarint(b)
	switch {
	case size == 0 && len(b) < 10:
		return 0, nil, api.ErrTorn
	case size <= 0 || !bytes.Equal(binary.AppendUvarint(nil, n), b[:size]):
		return 0, nil, api.ErrForm
	}
	return n, b[size:], api.OK
}

func plainRead(b []byte) (*plain, api.Errno) {
	k, b, e := take(b)
	if e != api.OK {
		return nil, e
	}
	size, b, e := take(b)
	if e != api.OK {
		return nil, e
	}
	have := uint64(len(b))
	switch {
	case k < 1 || k > 14, size < 8 || size > 25000:
		return nil, api.ErrForm
	case have < size:
		return nil, api.ErrTorn
	case have > size:
		return nil, api.ErrForm
	}
	p := &plain{k: k}
	for _, c := range b {
		for range 8 {
			p.set = append(p.set, c%2 == 1)
			c /= 2
		}
	}
	return p, api.OK
}

// pair is a Filter and the plain one, that are told the same.
type pair struct {
	t *testing.T
	f *Filter
	p *plain
}

func newPair(t *testing.T, n, bits int) *pair {
	t.Helper()
	f, e := New(n, bits)
	p, want := plainNew(n, bits)
	if e != want || (f == nil) != (p == nil) {
		t.Fatalf("New(%d, %d) is %v, not %v", n, bits, e, want)
	}
	return joined(t, f, p)
}

func readPair(t *testing.T, b []byte) *pair {
	t.Helper()
	was := slices.Clone(b)
	f, e := Read(b)
	p, want := plainRead(b)
	if e != want || (f == nil) != (p == nil) {
		t.Fatalf("Read(%.40x) is %v, not %v", b, e, want)
	}
	if !bytes.Equal(b, was) {
		t.Fatalf("Read changed %.40x to %.40x", was, b)
	}
	return joined(t, f, p)
}

// joined answers none where both were refused.
func joined(t *testing.T, f *Filter, p *plain) *pair {
	if f == nil {
		return nil
	}
	return &pair{t: t, f: f, p: p}
}

func (b *pair) add(key []byte) {
	b.t.Helper()
	was := slices.Clone(key)
	b.f.Add(key)
	b.p.add(key)
	if !bytes.Equal(key, was) {
		b.t.Fatalf("Add changed %x to %x", was, key)
	}
	if !b.f.Has(key) {
		b.t.Fatalf("Has(%x) is false behind its Add", key)
	}
}

func (b *pair) has(key []byte) {
	b.t.Helper()
	if got, want := b.f.Has(key), b.p.has(key); got != want {
		b.t.Fatalf("Has(%x) is %v, not %v", key, got, want)
	}
}

func (b *pair) look() {
	b.t.Helper()
	if got, want := b.f.Bytes(), b.p.bytes(); !bytes.Equal(got, want) {
		b.t.Fatalf("Bytes is %.40x, not %.40x", got, want)
	}
	if got, want := b.f.Ones(), b.p.ones(); got != want {
		b.t.Fatalf("Ones is %d, not %d", got, want)
	}
}

// again has the Filter go on from what was read of its Bytes.
func (b *pair) again() {
	b.t.Helper()
	*b = *readPair(b.t, b.f.Bytes())
}

func TestEveryNewAgainstThePlainOne(t *testing.T) {
	for bits := -1; bits <= 22; bits++ {
		for n := -2; n <= 140; n++ {
			if b := newPair(t, n, bits); b != nil {
				b.add([]byte{byte(n)})
				b.look()
				b.has([]byte{byte(n + 1)})
			}
		}
		for n := 9995; n <= 10002; n++ {
			if b := newPair(t, n, bits); b != nil {
				b.add([]byte{byte(n)})
				b.look()
			}
		}
	}
}

func TestRowsOfAddsAgainstThePlainFilter(t *testing.T) {
	for seed := range uint64(200) {
		r := rand.New(rand.NewPCG(10, seed))
		b := newPair(t, r.IntN(60), 1+r.IntN(20))
		var added [][]byte
		for range 60 {
			key := anyKey(r)
			b.has(key)
			if r.IntN(2) == 0 {
				b.add(key)
				added = append(added, key)
			}
			if r.IntN(10) == 0 {
				b.again()
			}
			b.look()
		}
		for _, key := range added {
			if !b.f.Has(key) {
				t.Fatalf("Has(%x) is false at the end", key)
			}
		}
	}
}

// anyKey answers a key, a short one more often.
func anyKey(r *rand.Rand) []byte {
	b := make([]byte, r.IntN(1+[]int{0, 1, 2, 20, 300}[r.IntN(5)]))
	for i := range b {
		b[i] = byte(r.Uint32())
	}
	return b
}

// Each beginning of two numbers, of which either may be torn or of no form.
func TestReadOfAllHeadsAgainstThePlainOne(t *testing.T) {
	heads := [][]byte{nil}
	for n := range 256 {
		heads = append(heads, []byte{byte(n)}, []byte{byte(n), 0}, []byte{byte(n), 1}, []byte{byte(n), 0x80, 1})
	}
	for _, k := range heads {
		for _, size := range heads {
			b := slices.Concat(k, size, make([]byte, 9))
			for cut := range 3 {
				if p := readPair(t, b[:len(b)-cut]); p != nil {
					p.look()
				}
			}
			readPair(t, b[:len(b)-9])
		}
	}
}

// Each change of one byte, or of how many there are.
func TestReadOfChangedBytesAgainstThePlainOne(t *testing.T) {
	r := rand.New(rand.NewPCG(10, 3))
	for range 3000 {
		b := newPair(t, r.IntN(1+[]int{0, 100, 2000}[r.IntN(3)]), 1+r.IntN(20))
		b.add(anyKey(r))
		row := b.f.Bytes()
		switch r.IntN(4) {
		case 0:
			row[r.IntN(min(4, len(row)))] = byte(r.Uint32())
		case 1:
			row = row[:r.IntN(len(row))]
		case 2:
			row = append(row, anyKey(r)...)
		case 3:
			row[r.IntN(len(row))] ^= 1 << r.IntN(8)
		}
		if p := readPair(t, row); p != nil {
			p.look()
			p.add(anyKey(r))
			p.look()
		}
	}
}

// 10.3

func FuzzNoCallPanics(f *testing.F) {
	f.Add(0, 1, []byte(nil), []byte(nil))
	f.Add(10, 10, []byte("key"), []byte("\x01\x08........"))
	f.Add(10000, 20, []byte("\x00"), []byte("\x0e\xa8\xc3\x01"))
	f.Add(math.MinInt, math.MaxInt, []byte("\x80"), []byte("\xff\xff\xff\xff\xff\xff\xff\xff\xff\x01\xff\xff\xff\xff\xff\xff\xff\xff\xff\x01"))
	f.Add(65, 1, []byte("a"), []byte("\x07\x09........."))
	f.Fuzz(func(t *testing.T, n, bits int, key, in []byte) {
		for _, b := range []*pair{newPair(t, n, bits), readPair(t, in)} {
			if b == nil {
				continue
			}
			b.look()
			b.has(key)
			b.add(key)
			b.has(in)
			b.look()
			b.again()
			b.has(key)
			b.look()
		}
	})
}
