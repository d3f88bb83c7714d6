package edit

import (
	"bytes"
	"encoding/hex"
	"math"
	"slices"
	"testing"

	"clepsydra/api"
)

// 15.2: Put

func TestPutLaysAFrameBehind(t *testing.T) {
	for _, e := range good() {
		for _, ahead := range [][]byte{nil, {}, {0}, text(7), written(api.Edit{Log: 3}), text(70000)} {
			if b, err := put(t, ahead, e); !bytes.Equal(b, join(ahead, written(e))) || err != api.OK {
				t.Errorf("Put of %v behind %.20x is %.60x, %v", e, ahead, b, err)
			}
		}
	}
}

// The bytes were worked out by another program.
func TestBytesOfEdits(t *testing.T) {
	for want, e := range map[string]api.Edit{
		"060000075e3de858000000000000006d6a3ebb":                               {},
		"06000009798290f4000100020100000000ebda4411":                           {Log: 1, Add: row(file(0, 2))},
		"060000087a01fb0601020000000000003d961215":                             {Drop: []int{2}},
		"060000163279ddba0205ac02010380808080040102030480808080808040315e8c67": {Drop: []int{5, 300}, Add: row(file(3, 1<<30)), Log: 1, Floor: 2, Cert: 3, At: 4, Lease: 1 << 48},
		"060000239f24cfbf0280808080040102017f0280018080808004808080808080408080808080208101ac02343b1a6c": {
			Drop: []int{1 << 30, 1}, Add: row(file(1, 127), file(2, 128)), Log: 1 << 30, Floor: 1 << 48, Cert: 1 << 40, At: 129, Lease: 300},
	} {
		b, err := put(t, nil, e)
		if got := hex.EncodeToString(b); got != want || err != api.OK {
			t.Errorf("Put of %v is %s, %v", e, got, err)
		}
		raw, _ := hex.DecodeString(want)
		reads(t, raw[8:len(raw)-4], e)
	}
}

func TestPutRefuses(t *testing.T) {
	for _, e := range bad() {
		for _, ahead := range [][]byte{nil, text(7), written(api.Edit{Log: 3})} {
			if b, err := put(t, ahead, e); len(b) != 0 || err != api.ErrArg {
				t.Errorf("Put of %.200v behind %x is %.60x, %v", e, ahead, b, err)
			}
		}
	}
}

// 15.2: Read

func reads(t *testing.T, body []byte, want api.Edit) {
	t.Helper()
	if e, err := read(t, body); !sameEdit(e, want) || err != api.OK {
		t.Errorf("Read of %.60x is %v, %v, not %v", body, e, err, want)
	}
}

func noEdit(t *testing.T, why string, body []byte) {
	t.Helper()
	if e, err := read(t, body); err != api.ErrForm {
		t.Errorf("%s: Read of %.60x is %v, %v", why, body, e, err)
	}
}

func TestReadTellsWhatWasPut(t *testing.T) {
	for _, e := range good() {
		reads(t, coded(e), e)
		b, err := put(t, text(5), e)
		if err != api.OK {
			t.Errorf("Put of %v is %v", e, err)
		}
		reads(t, b[5+8:len(b)-4], e)
	}
}

func TestReadOfABodyThatWasCut(t *testing.T) {
	for _, e := range good() {
		body := coded(e)
		for n := range body {
			noEdit(t, "cut", body[:n])
		}
		noEdit(t, "a 0 behind", append(slices.Clone(body), 0))
		noEdit(t, "a byte behind", append(slices.Clone(body), 0x80))
		noEdit(t, "another behind", join(body, body))
	}
	noEdit(t, "nil", nil)
	noEdit(t, "none", []byte{})
	noEdit(t, "none, with room", make([]byte, 7)[:0])
}

func TestReadOfWhatPutRefuses(t *testing.T) {
	for _, e := range bad() {
		noEdit(t, "refused", coded(e))
	}
}

// One number after the other is written as each of those that it may not be.
func TestReadOfNumbersBeyondTheirBounds(t *testing.T) {
	// Drop of one, Add of one, and Log, Floor, Cert, At, Lease.
	plain := []uint64{1, 5, 1, 2, 6, 3, 7, 8, 9, 10}
	reads(t, numbers(nil, plain...), api.Edit{Drop: []int{5}, Add: row(file(2, 6)), Log: 3, Floor: 7, Cert: 8, At: 9, Lease: 10})
	far := []uint64{1<<31 + 1, 1<<32 + 1, 1 << 62, 1 << 63, 1<<63 + 1, math.MaxUint64 - 1, math.MaxUint64}
	for at, l := range [][]uint64{
		{0, 2, 3, 40, 41, 1 << 32}, {0, topNum + 1}, {0, 2, 3, 40, 41, 1 << 32}, {4, 5}, {0, topNum + 1},
		{topNum + 1}, {topVersion + 1}, {topVersion + 1}, {topVersion + 1}, {topVersion + 1},
	} {
		for _, n := range l {
			other := slices.Clone(plain)
			other[at] = n
			noEdit(t, "beyond", numbers(nil, other...))
		}
		for _, n := range far {
			other := slices.Clone(plain)
			other[at] = n
			if at >= 6 && n <= topVersion {
				continue
			}
			noEdit(t, "far beyond", numbers(nil, other...))
		}
	}
}

// Numbers with groups of nothing at their end, with too many bytes, and above
// 2^64 - 1.
func TestReadOfNumbersThatAreWrittenOtherwise(t *testing.T) {
	for _, e := range []api.Edit{{}, {Drop: []int{5}, Add: row(file(2, 6)), Log: 3, Floor: 7, Cert: 8, At: 9, Lease: 10}} {
		body := coded(e)
		for at := range body {
			for _, tail := range [][]byte{{0}, {0x80, 0}, {0x80, 0x80, 0x80, 0x80, 0x80, 0x80, 0x80, 0x80, 0}, bytes.Repeat([]byte{0x80}, 20), bytes.Repeat([]byte{0xff}, 9), append(bytes.Repeat([]byte{0x80}, 8), 2)} {
				noEdit(t, "longer", join(body[:at], []byte{body[at] | 0x80}, tail, body[at+1:]))
			}
		}
	}
}

func TestReadOfOtherBytes(t *testing.T) {
	for _, body := range [][]byte{
		{41}, {0, 41}, {40}, {0, 40}, {0xff, 0xff, 0xff, 0xff, 0xff, 0xff, 0xff, 0xff, 0xff, 1}, {0, 0xff, 0xff, 0xff, 0xff, 0xff, 0xff, 0xff, 0xff, 0xff, 1},
		{0, 0, 0, 0, 0, 0}, {0, 0, 0, 0, 0, 0, 0, 0}, {1, 0, 0, 0, 0, 0, 0, 0}, {0, 1, 4, 1, 0, 0, 0, 0, 0}, {0, 1, 0, 0, 0, 0, 0, 0, 0},
		text(3), text(40), text(60000), make([]byte, 60000), make([]byte, 1<<20), bytes.Repeat([]byte{0xff}, 1000), bytes.Repeat([]byte{1}, 1000),
		written(api.Edit{}), written(Whole(view())),
	} {
		noEdit(t, "other bytes", body)
	}
	reads(t, []byte{0, 0, 0, 0, 0, 0, 0}, api.Edit{})
	// Forty and 41, of Drop and of Add.
	ones := func(n int) []byte { return bytes.Repeat([]byte{1}, n) }
	reads(t, join([]byte{40}, ones(40), make([]byte, 6)), api.Edit{Drop: slices.Repeat([]int{1}, 40)})
	noEdit(t, "41", join([]byte{41}, ones(41), make([]byte, 6)))
	reads(t, join([]byte{0, 40}, ones(80), make([]byte, 5)), api.Edit{Add: slices.Repeat(row(file(1, 1)), 40)})
	noEdit(t, "41", join([]byte{0, 41}, ones(82), make([]byte, 5)))
}
