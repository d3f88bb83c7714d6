package log

import (
	"math/rand/v2"
	"testing"

	"clepsydra/api"
	"clepsydra/disk"
)

// 14.2

// begins fails where what Open tells behind a Crash is not a beginning of the
// batches that were put, each whole, with at least those that were synced.
func begins(t *testing.T, why string, d *disk.Disk, put [][]api.Item, synced int) (*Log, int, bool) {
	t.Helper()
	g, l, whole, e := opened(t, d, "log.1")
	if e != api.OK {
		t.Fatalf("%s: Open is %v", why, e)
	}
	if len(l) < synced || len(l) > len(put) || !sameBatches(l, put[:len(l)]) {
		t.Fatalf("%s: %d batches of %d, of which %d were synced: %.3v", why, len(l), len(put), synced, l)
	}
	sized(t, why, g, len(written(l...)), len(l))
	if whole != (fileOf(d, "log.1") == string(written(l...))) {
		t.Fatalf("%s: %d batches, and %v", why, len(l), whole)
	}
	return g, len(l), whole
}

func TestWhatWasSyncedIsReplayed(t *testing.T) {
	all := three()
	for synced := range len(all) + 1 {
		g, d := started(t, 10000)
		for i, l := range all {
			if i == synced {
				done(t, g.Sync())
			}
			done(t, put(t, g, l))
		}
		if synced == len(all) {
			done(t, g.Sync())
		}
		loose := len(written(all[synced:]...))
		for keep := range loose + 1 {
			c := d.Copy()
			c.Crash([]int{keep})
			if n := len(fileOf(c, "log.1")); n != len(written(all[:synced]...))+keep {
				t.Fatalf("%d bytes are there", n)
			}
			begins(t, "crashed", c, all, synced)
			c.Crash([]int{0})
			begins(t, "crashed again", c, all, synced)
		}
	}
}

// script does what a Log is for, till a call is refused. It answers what was put
// or may have been, and how many batches lasted.
func script(d *disk.Disk, all [][]api.Item) (put [][]api.Item, synced int, there bool) {
	g, e := New(d, "log.1")
	if e != api.OK || d.SyncDir() != api.OK {
		return nil, 0, false
	}
	for i, l := range all {
		if g.Put(l) != api.OK {
			return all[:i], synced, true
		}
		if i%2 == 1 {
			if g.Sync() != api.OK {
				return all[:i+1], synced, true
			}
			synced = i + 1
		}
	}
	return all, synced, true
}

func TestADeathAtEachCall(t *testing.T) {
	all := [][]api.Item{row(1), row(2), row(3), row(1), row(4)}
	for stop := range 10 {
		d := disk.New(10000)
		d.Stop(stop)
		put, synced, there := script(d, all)
		for keep := range len(written(all...)) + 1 {
			for _, name := range []int{0, 1} {
				c := d.Copy()
				c.Crash([]int{keep, name})
				if !there && fileOf(c, "log.1") == "" {
					continue
				}
				begins(t, "crashed", c, put, synced)
			}
		}
	}
}

// A log that goes on behind one Crash after the other, and that is laid anew
// where it is torn.
func TestCrashesAgainAndAgain(t *testing.T) {
	for seed := range uint64(300) {
		r := rand.New(rand.NewPCG(142, seed))
		g, d := started(t, 1<<20)
		var all [][]api.Item
		for range 20 {
			synced := len(all)
			for range r.IntN(6) {
				l := row(1 + r.IntN(9))
				done(t, put(t, g, l))
				all = append(all, l)
				if r.IntN(4) == 0 {
					done(t, g.Sync())
					synced = len(all)
				}
			}
			d.Crash([]int{r.IntN(1000)})
			h, n, whole := begins(t, "crashed", d, all, synced)
			g, all = h, all[:n]
			if !whole {
				g = anew(t, d, all)
			}
			has(t, "goes on", g, d, all...)
		}
	}
}

// anew answers a Log of these batches that takes the place of a torn one.
func anew(t *testing.T, d *disk.Disk, all [][]api.Item) *Log {
	t.Helper()
	g, e := New(d, "log.2")
	done(t, e)
	for _, l := range all {
		done(t, put(t, g, l))
	}
	done(t, g.Sync(), d.Rename("log.2", "log.1"), d.SyncDir())
	h, _, _, e := opened(t, d, "log.1")
	done(t, e)
	return h
}
