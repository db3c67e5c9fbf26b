package status

import (
	"fmt"
	"slices"
	"testing"

	"oakum/api"
	"oakum/disk"
	"oakum/volume"
)

// P22.2, T3: a snapshot whose store has room for all chunks, as Whole tells them, never gets invalid.

// whole is how many chunks a store has room for that gets never full.
func (x site) whole(t testing.TB) int {
	t.Helper()
	n, _, err := Whole(x.geom())
	if err != api.OK {
		t.Fatalf("Whole of %v = %d", x, err)
	}
	return n
}

// checkValid holds that no snapshot is invalid.
func checkValid(t testing.TB, v *volume.Volume, x site, last api.Command) {
	t.Helper()
	s, err := Of(v.Engine())
	if err != api.OK {
		t.Fatal(err)
	}
	for _, l := range s.Lines {
		if l.Invalid || l.Used+l.Left != l.Room {
			t.Fatalf("%s of %v: %+v", short(last), x, l)
		}
	}
}

// openAgain lets the power be taken away, and opens the disk; that may need some times.
func (b *bench) openAgain(t testing.TB, r *numbers) {
	t.Helper()
	for {
		keep := make([]bool, b.disk.Pending())
		for k := range keep {
			keep[k] = r.below(2) == 0
		}
		b.disk.Restart(keep...)
		b.disk.Fail(r.below(4))
		v, err := volume.Open(b.disk)
		if err == api.OK {
			b.disk.Fail(-1)
			b.volume = v
			return
		}
		if err != api.ErrCrash {
			t.Fatalf("Open of %v = %d", b.site, err)
		}
	}
}

// filled is a volume all of whose sectors are written, with two snapshots that have room for all chunks.
func (x site) filled(t testing.TB) *bench {
	t.Helper()
	n := x.whole(t)
	return x.bench(t, writing(0, 0, sectorsOf("a", x.origin)), creating(n), creating(n))
}

// moves are commands that may let a snapshot need places.
func (x site) moves(t testing.TB) []api.Command {
	l := []api.Command{merging(1), merging(2), stepping(), deleting(1), creating(x.whole(t))}
	for id := range 3 {
		for c := range x.chunks() {
			l = append(l, x.touching(id, c))
		}
		l = append(l, writing(id, 0, sectorsOf(fmt.Sprint("m", id), x.origin)))
	}
	return l
}

// All plays of four moves.
func TestNeverFullInAllPlays(t *testing.T) {
	for _, x := range []site{{70, 3, 1}, {70, 5, 2}} {
		l := x.moves(t)
		var play func(d *disk.Disk, more int)
		play = func(d *disk.Disk, more int) {
			for _, c := range l {
				next := d.Clone()
				v, err := volume.Open(next)
				if err != api.OK {
					t.Fatal(err)
				}
				v.Do(c)
				checkValid(t, v, x, c)
				if more > 1 {
					play(next, more-1)
				}
			}
		}
		play(x.filled(t).disk, 4)
	}
}

// keeps are all ways to keep some of a few writes; of more all, none, each alone, and all but each.
func keeps(n int) [][]bool {
	var l [][]bool
	if n <= 4 {
		for way := range 1 << n {
			keep := make([]bool, n)
			for k := range keep {
				keep[k] = way>>k&1 == 1
			}
			l = append(l, keep)
		}
		return l
	}
	l = append(l, make([]bool, n), slices.Repeat([]bool{true}, n))
	for i := range n {
		alone, but := make([]bool, n), slices.Repeat([]bool{true}, n)
		alone[i], but[i] = true, false
		l = append(l, alone, but)
	}
	return l
}

// The power fails at each write and flush of each move, behind each other one, with the pending writes kept or lost; and then
// all is written.
func TestNeverFullWhateverFails(t *testing.T) {
	for _, x := range []site{{70, 3, 1}, {70, 5, 2}} {
		l := x.moves(t)
		for _, first := range l {
			b := x.filled(t)
			b.volume.Do(x.touching(2, 1))
			b.volume.Do(first)
			for _, last := range l {
				for fuse := 0; x.failsAt(t, b.disk, last, fuse); fuse++ {
				}
			}
		}
	}
}

// failsAt tells whether a command fails with this fuse.
func (x site) failsAt(t *testing.T, ahead *disk.Disk, c api.Command, fuse int) bool {
	t.Helper()
	d := ahead.Clone()
	v, err := volume.Open(d)
	if err != api.OK {
		t.Fatal(err)
	}
	d.Fail(fuse)
	_, err = v.Do(c)
	for _, keep := range keeps(d.Pending()) {
		again := d.Clone()
		again.Restart(keep...)
		v, err := volume.Open(again)
		if err != api.OK {
			t.Fatalf("%s of %v, fuse %d, kept %v: Open = %d", short(c), x, fuse, keep, err)
		}
		checkValid(t, v, x, c)
		v.Do(writing(0, 0, sectorsOf("z", x.origin)))
		checkValid(t, v, x, c)
	}
	return err == api.ErrCrash
}

// Writes, merges and failures in any order, where all snapshots have room for all chunks.
func TestNeverFullInAnyOrder(t *testing.T) {
	for i, x := range append(sites(), site{1200, 200, 3}) {
		r := numbers(i + 11)
		n := x.whole(t)
		b := x.bench(t, creating(n))
		failed, merges, most := 0, 0, 0
		for range 1500 {
			c := x.anyCommand(&r)
			if c.Op == "create" {
				c.N = max(c.N, n)
			}
			b.disk.Fail(r.below(1 + r.below(60)))
			_, err := b.volume.Do(c)
			if err == api.ErrCrash {
				failed++
			}
			b.openAgain(t, &r)
			checkValid(t, b.volume, x, c)
			s, _ := Of(b.volume.Engine())
			for _, l := range s.Lines {
				if l.Merging {
					merges++
				}
				most = max(most, l.Used)
			}
		}
		if failed < 100 || merges < 5 || most < min(n, 20) {
			t.Errorf("of %v: only %d failures, %d lines of merges, %d places used", x, failed, merges, most)
		}
	}
}

// With room for all chunks all places can be needed, and no more: with room for one fewer a snapshot gets invalid.
func TestJustSoManyPlaces(t *testing.T) {
	for _, x := range append(sites(), site{3000, 500, 7}, site{3000, 128, 128}, site{3000, 129, 128}) {
		n := x.whole(t)
		b := x.bench(t, creating(n), writing(0, 0, sectorsOf("a", x.origin)))
		want := Status{Free: x.sectors - firstOrigin - x.origin - x.size(n), Lines: []Line{{ID: 1, Room: n, Used: n, Share: 100}}}
		checkStatus(t, b.volume.Engine(), want)
		if n == 1 {
			continue
		}
		b = x.bench(t, creating(n-1), writing(0, 0, sectorsOf("a", x.origin)))
		want = Status{Free: x.sectors - firstOrigin - x.origin - x.size(n-1), Lines: []Line{{ID: 1, Invalid: true, Room: n - 1}}}
		checkStatus(t, b.volume.Engine(), want)
	}
}

// A disk with just the sectors that Whole tells has room for such a store; with one fewer it has none.
func TestJustSoManySectors(t *testing.T) {
	for _, x := range append(sites(), site{0, 500, 7}, site{0, 128, 128}, site{0, 129, 128}, site{0, 260, 1}) {
		n, sectors, err := Whole(x.geom())
		if err != api.OK {
			t.Fatal(err)
		}
		just := site{firstOrigin + x.origin + sectors, x.origin, x.chunk}
		b := just.bench(t, creating(n), writing(0, 0, sectorsOf("a", x.origin)))
		checkStatus(t, b.volume.Engine(), Status{Lines: []Line{{ID: 1, Room: n, Used: n, Share: 100}}})
		just.sectors--
		b = just.bench(t)
		if err := b.do(creating(n)); err != api.ErrSpace {
			t.Errorf("a store of %v has room on a disk of one sector fewer: %d", x, err)
		}
		checkStatus(t, b.volume.Engine(), Status{Free: sectors - 1})
	}
}
