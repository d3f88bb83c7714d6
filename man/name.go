package man

import (
	"strconv"
	"strings"

	"clepsydra/api"
	"clepsydra/frame"
	"clepsydra/num"
)

const (
	// current leads to the file that counts, fresh is what becomes it.
	current = "current"
	fresh   = "current.tmp"
	// currentKind is the kind of current's frame.
	currentKind = 8
	// man is the kind of the files of Edits, the two others are the kinds of
	// files that a View tells of.
	man = "man"
	// mostNumber is the greatest number of a file.
	mostNumber = 1 << 30
)

// Name answers the name of the file of this kind and number, and none if there
// may be no such file.
func Name(kind string, n int) string {
	if !isKind(kind) || n < 1 || n > mostNumber {
		return ""
	}
	return kind + "." + strconv.Itoa(n)
}

// Number answers the number of the file of this name, and false if no file of
// this kind has it.
func Number(name, kind string) (int, bool) {
	digits, ok := strings.CutPrefix(name, kind+".")
	if !ok {
		return 0, false
	}
	n, err := strconv.Atoi(digits)
	// One number has several texts, but only one name.
	if err != nil || Name(kind, n) != name {
		return 0, false
	}
	return n, true
}

func isKind(kind string) bool {
	switch kind {
	case "log", "tab", man:
		return true
	}
	return false
}

// leading answers the bytes of current that lead to the file man.n.
func leading(n int) ([]byte, api.Errno) {
	return frame.Put(nil, currentKind, num.Put(nil, uint64(n)))
}

// leads answers the number of the file to which these bytes of current lead, and
// false if they are not what leading writes.
func leads(b []byte) (int, bool) {
	kind, body, next, e := frame.Take(b, 0)
	if e != api.OK || kind != currentKind || next != len(b) {
		return 0, false
	}
	n, size, e := num.Take(body)
	if e != api.OK || size != len(body) || n < 1 || n > mostNumber {
		return 0, false
	}
	return int(n), true
}
