package state

import (
	"slices"

	"clepsydra/api"
)

// Series answers the items of the series s.
func Series(l []api.Item, s int) []api.Item {
	return pick(func(x api.Item) bool {
		return x.Series == s
	}, l)
}

// Range answers the samples of the series s from the time lo to the time hi.
func Range(l []api.Item, s int, lo, hi uint64) []api.Item {
	return pick(func(x api.Item) bool {
		return isSample(x, s) && lo <= x.Time && x.Time <= hi
	}, l)
}

// Get answers the sample of the series s at that time.
func Get(l []api.Item, s int, time uint64) (api.Item, bool) {
	for _, x := range l {
		if isSample(x, s) && x.Time == time {
			return x, true
		}
	}
	return api.Item{}, false
}

// Tomb answers the version of the delete of the series s, 0 if there is none.
func Tomb(l []api.Item, s int) uint64 {
	for _, x := range l {
		if x.Kind == api.ITomb && x.Series == s {
			return x.Version
		}
	}
	return 0
}

// Upto answers the items whose version is at most v.
func Upto(l []api.Item, v uint64) []api.Item {
	return pick(func(x api.Item) bool {
		return x.Version <= v
	}, l)
}

// Purge answers l without the deletes whose version is at most v.
func Purge(l []api.Item, v uint64) []api.Item {
	return pick(func(x api.Item) bool {
		return x.Kind != api.ITomb || x.Version > v
	}, l)
}

// Same tells whether a and b are the same, item by item.
func Same(a, b []api.Item) bool {
	return slices.Equal(a, b)
}

// Top answers the greatest version, 0 if there is none.
func Top(l []api.Item) uint64 {
	top := uint64(0)
	for _, x := range l {
		top = max(top, x.Version)
	}
	return top
}

func isSample(x api.Item, s int) bool {
	return x.Kind == api.ISample && x.Series == s
}
