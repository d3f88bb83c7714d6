package man

import (
	"math"
	"strconv"
	"strings"
	"testing"
)

// 16.1

func kinds() []string { return []string{"log", "tab", "man"} }

// otherKinds answers texts that are no kinds.
func otherKinds() []string {
	return []string{"", "seg", "lo", "logs", "Log", "MAN", "log.", ".log", "log.1", "l", " log", "log\x00", "m\u00e4n", "current", "mantab", strings.Repeat("log", 1000)}
}

func names(t *testing.T, kind string, n int, want string) {
	t.Helper()
	if got := Name(kind, n); got != want {
		t.Errorf("Name of %.20q and %d is %.40q, not %.40q", kind, n, got, want)
	}
}

func numbers(t *testing.T, name, kind string, want int, ok bool) {
	t.Helper()
	if n, is := Number(name, kind); n != want || is != ok {
		t.Errorf("Number of %.40q and %.20q is %d, %v, not %d, %v", name, kind, n, is, want, ok)
	}
}

func TestNameAndBack(t *testing.T) {
	for _, kind := range kinds() {
		for _, n := range []int{1, 2, 7, 9, 10, 11, 99, 100, 101, 300, 12345, 1000000000, topNum - 1, topNum} {
			name := kind + "." + strconv.Itoa(n)
			names(t, kind, n, name)
			numbers(t, name, kind, n, true)
			for _, other := range kinds() {
				if other != kind {
					numbers(t, name, other, 0, false)
				}
			}
			for _, other := range otherKinds() {
				numbers(t, name, other, 0, false)
			}
		}
	}
	names(t, "log", 1, "log.1")
	names(t, "tab", 300, "tab.300")
	names(t, "man", topNum, "man.1073741824")
}

func TestNamesOfAllShortNumbers(t *testing.T) {
	for n := range 20000 {
		for _, kind := range kinds() {
			name, ok := kind+"."+strconv.Itoa(n), n > 0
			if ok {
				names(t, kind, n, name)
			}
			numbers(t, name, kind, n, ok)
		}
	}
}

func TestNameOfNumbersThatMayNotBe(t *testing.T) {
	for _, n := range []int{0, -1, -2, -300, -topNum, topNum + 1, topNum * 2, 1 << 32, 1<<32 + 1, 1 << 62, math.MinInt, math.MinInt + 1, math.MaxInt} {
		for _, kind := range kinds() {
			names(t, kind, n, "")
			numbers(t, kind+"."+strconv.Itoa(n), kind, 0, false)
		}
	}
}

func TestNameOfOtherKinds(t *testing.T) {
	for _, kind := range otherKinds() {
		for _, n := range []int{0, 1, -1, 300, topNum, topNum + 1, math.MinInt, math.MaxInt} {
			names(t, kind, n, "")
			numbers(t, kind+"."+strconv.Itoa(n), kind, 0, false)
		}
		numbers(t, "", kind, 0, false)
		numbers(t, ".", kind, 0, false)
		numbers(t, ".1", kind, 0, false)
		numbers(t, kind, kind, 0, false)
	}
}

func TestNumberOfOtherTexts(t *testing.T) {
	for _, kind := range kinds() {
		for _, name := range []string{
			"", kind, kind + ".", kind + "..", kind + "..1", kind + "1", kind + ",1", kind + ":1", kind + ". 1", kind + ".1 ", kind + ".1\n", kind + ".1\x00",
			kind + ".0", kind + ".00", kind + ".01", kind + ".007", kind + ".00000000000000000000001", kind + ".+1", kind + ".-1", kind + ".--1", kind + ".+0", kind + ".-0",
			kind + ".1x", kind + ".x1", kind + ".x", kind + ".1.", kind + ".1.1", kind + ".1.tmp", kind + ".1_0", kind + ".1e3", kind + ".0x1", kind + ".0b1", kind + ".1+", kind + ".1-",
			kind + ".\u0661", kind + ".\uff11", kind + ".1\u0661", "x" + kind + ".1", " " + kind + ".1", "." + kind + ".1", kind + kind + ".1", strings.ToUpper(kind) + ".1",
			kind + ".1073741825", kind + ".1073741824.", kind + ".01073741824", kind + ".2147483648", kind + ".4294967297", kind + ".9223372036854775807", kind + ".9223372036854775808",
			kind + ".18446744073709551617", kind + ".-9223372036854775808", kind + "." + strings.Repeat("1", 100), kind + "." + strings.Repeat("0", 100000), kind + "." + strings.Repeat("9", 100000),
			"current", "current.tmp", "current.1",
		} {
			numbers(t, name, kind, 0, false)
		}
	}
}
