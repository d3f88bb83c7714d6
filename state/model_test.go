package state

import (
	"slices"

	"clepsydra/api"
	"clepsydra/item"
)

// A second Ok, Add, Of and Join, each written by the words of 6.1, however long
// it takes.

func plainOk(l []api.Item) bool {
	for i, x := range l {
		if !item.Ok(x) {
			return false
		}
		for j, y := range l {
			if i < j && !item.Less(x, y) || item.Hides(x, y) {
				return false
			}
		}
	}
	return true
}

func plainAdd(l []api.Item, x api.Item) []api.Item {
	if !plainOk(l) || !item.Ok(x) {
		return slices.Clone(l)
	}
	var with []api.Item
	for _, y := range l {
		if item.Hides(y, x) || item.Same(x, y) && !item.Wins(x, y) {
			return slices.Clone(l)
		}
		if !item.Hides(x, y) && !item.Same(x, y) {
			with = append(with, y)
		}
	}
	at := 0
	for at < len(with) && item.Less(with[at], x) {
		at++
	}
	return slices.Insert(with, at, x)
}

func plainOf(l []api.Item) []api.Item {
	var own []api.Item
	for _, x := range l {
		own = plainAdd(own, x)
	}
	return own
}

func plainJoin(a, b []api.Item) []api.Item {
	own := slices.Clone(a)
	if !plainOk(a) {
		own = plainOf(a)
	}
	for _, x := range b {
		own = plainAdd(own, x)
	}
	return own
}
