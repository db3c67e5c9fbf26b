package volume

import (
	"fmt"
	"slices"
	"testing"

	"oakum/api"
	"oakum/disk"
)

// P18.2: acknowledged.

// keeps are ways to keep some of so many writes: all ways of a few; of more each alone, all but each, and each first ones.
func keeps(n int) [][]bool {
	if n > 6 {
		return keepsOfMany(n)
	}
	l := [][]bool{{}}
	for range n {
		var longer [][]bool
		for _, keep := range l {
			longer = append(longer, append(slices.Clone(keep), false), append(slices.Clone(keep), true))
		}
		l = longer
	}
	return l
}

func keepsOfMany(n int) [][]bool {
	l := [][]bool{{}}
	for i := range n {
		alone, but, first := make([]bool, n), make([]bool, n), make([]bool, n)
		for k := range n {
			alone[k], but[k], first[k] = k == i, k != i, k <= i
		}
		l = append(l, alone, but, first)
	}
	return l
}

// found is a plain one of all that a volume, which was opened, tells.
func (x site) found(t testing.TB, d *disk.Disk, v *Volume) *plain {
	t.Helper()
	e, p := v.Engine(), x.plain(d)
	p.reads, p.merging = readAll(t, v, 0, x.origin), e.Merging()
	for _, id := range e.IDs() {
		told, err := e.Slot(id)
		if err != api.OK {
			t.Fatalf("Slot(%d) = %d", id, err)
		}
		s := &snapshot{at: told.Store, room: x.room(told.Store.Len), has: map[int]bool{}, invalid: e.Store(id).Invalid()}
		for _, c := range chunksOf(e.Store(id)) {
			s.has[c] = true
		}
		if id != p.merging && !s.invalid {
			s.reads = readAll(t, v, id, x.origin)
		}
		p.snaps[id-1] = s
	}
	return p
}

// readAll are the sectors that are read.
func readAll(t testing.TB, v *Volume, id, n int) []string {
	t.Helper()
	r, err := v.Do(reading(id, 0, n))
	if err != api.OK || len(r.Data) != n*sectorSize {
		t.Fatalf("%d reads %q, %d", id, r.Data, err)
	}
	var l []string
	for i := range n {
		l = append(l, r.Data[i*sectorSize:][:sectorSize])
	}
	return l
}

// between holds that what is found is as it was ahead of a command, or as it is behind it; of the sectors that it writes each
// is so, and of the snapshots that need a place each may be invalid, if it is behind it.
func (p *plain) between(t testing.TB, c api.Command, ahead, behind *plain) {
	t.Helper()
	if p.merging != 0 && p.left() == 0 {
		t.Fatalf("the merge of %d goes on without exceptions", p.merging)
	}
	done, reads := p.whole(t, ahead, behind), ahead.reads
	if c.Op == "merge" { // it changes all that the origin reads, at once
		reads = done.reads
	}
	checkSectors(t, 0, p.reads, reads, written(c, 0))
	for _, id := range p.ids() {
		p.snapshotBetween(t, c, id, ahead.snap(id), behind.snap(id))
	}
}

// whole is which of both has the same snapshots, with the same stores, and the same one that is Merging; the one ahead, if both.
func (p *plain) whole(t testing.TB, ahead, behind *plain) *plain {
	t.Helper()
	for _, q := range []*plain{ahead, behind} {
		if p.states() == q.states() {
			return q
		}
	}
	t.Fatalf("%s, ahead it was %s, behind it is %s", p.states(), ahead.states(), behind.states())
	return nil
}

// states are those of all slots, as a text.
func (p *plain) states() string {
	text := fmt.Sprint("merging ", p.merging)
	for _, id := range p.ids() {
		text += fmt.Sprint("; ", id, " ", p.snap(id).at, " ", p.snap(id).room)
	}
	return text
}

// written is what a command writes into the sectors of the origin, or of a snapshot.
func written(c api.Command, id int) map[int]string {
	sectors := map[int]string{}
	if c.Op == "write" && c.ID == id {
		for i := range len(c.Data) / sectorSize {
			sectors[c.At+i] = c.Data[i*sectorSize:][:sectorSize]
		}
	}
	return sectors
}

// checkSectors holds that each sector is as it was, or is written.
func checkSectors(t testing.TB, id int, got, was []string, written map[int]string) {
	t.Helper()
	for at, s := range got {
		if data, ok := written[at]; s != was[at] && !(ok && s == data) {
			t.Fatalf("sector %d of %d is %q, but was %q, and %q is written", at, id, s, was[at], data)
		}
	}
}

func (p *plain) snapshotBetween(t testing.TB, c api.Command, id int, ahead, behind *snapshot) {
	t.Helper()
	s := p.snap(id)
	if ahead == nil { // it was created
		ahead = behind
	}
	switch {
	case s.invalid && !ahead.invalid && (behind == nil || !behind.invalid):
		t.Fatalf("snapshot %d is invalid", id)
	case !s.invalid && ahead.invalid:
		t.Fatalf("snapshot %d is not invalid any more", id)
	case s.invalid:
		return
	case len(s.has) > s.room:
		t.Fatalf("snapshot %d has %v in room for %d", id, s.chunks(), s.room)
	}
	if id != p.merging {
		checkSectors(t, id, s.reads, ahead.reads, written(c, id))
	}
	checkExceptions(t, id, s, ahead, behind)
}

// checkExceptions holds that each exception was there ahead of a command, or is there behind it, and that all are there that
// were, but for those that are moved. One that gets invalid may have some first that nobody has behind it.
func checkExceptions(t testing.TB, id int, s, ahead, behind *snapshot) {
	t.Helper()
	for _, c := range s.chunks() {
		added := behind != nil && (behind.invalid || behind.has[c])
		if !ahead.has[c] && !added {
			t.Fatalf("snapshot %d has %v, and ahead it had %v", id, s.chunks(), ahead.chunks())
		}
	}
	for _, c := range ahead.chunks() {
		moved := ahead.reads == nil && (behind == nil || !behind.has[c])
		if !s.has[c] && !moved {
			t.Fatalf("snapshot %d has %v, and ahead it had %v", id, s.chunks(), ahead.chunks())
		}
	}
}

// opened opens a disk, and lets what stands then be looked at. The power fails while it is opened, too, so often at most, at each
// thing, with each of the pending writes kept or lost.
func opened(t testing.TB, d *disk.Disk, often int, look func(*disk.Disk, *Volume)) {
	t.Helper()
	for fuse := 0; often > 0; fuse++ {
		again := d.Clone()
		again.Fail(fuse)
		v, err := Open(again)
		if err == api.OK {
			break
		}
		if v != nil || err != api.ErrCrash {
			t.Fatalf("fuse %d: Open = %v, %d", fuse, v, err)
		}
		for _, keep := range keeps(again.Pending()) {
			restarted := again.Clone()
			restarted.Restart(keep...)
			opened(t, restarted, often-1, look)
		}
	}
	again := d.Clone()
	look(again, mustOpen(t, again))
}

// story is commands that tell no error, and the last one, in which the power fails.
type story struct {
	site
	ahead []api.Command
	last  api.Command
}

// lasts are commands in which the power fails.
func (x site) lasts() []api.Command {
	last := x.origin - 1
	l := []api.Command{
		x.filling(0, "x"), writing(0, 0, sectorOf("x")), writing(0, last, sectorOf("x")), writing(0, 0, ""), stepping(), reading(0, 0, x.origin),
		creating(1), creating(x.chunks()), creating(0),
	}
	for id := 1; id <= 6; id++ {
		l = append(l, writing(id, 0, sectorsOf("x", min(4, x.origin))), writing(id, last, sectorOf("x")), deleting(id), merging(id), reading(id, 0, 1))
	}
	return l
}

// stories are the last commands behind some others: without snapshots, with those of a crowd, and while a merge goes on.
func (x site) stories() []story {
	crowd := x.crowd()
	goesOn := append(slices.Clone(crowd), merging(1))
	moved := append(slices.Clone(goesOn), writing(0, 0, sectorOf("w")))
	for c := 2; c < x.chunks(); c += 2 { // one exception is left
		moved = append(moved, stepping())
	}
	again := append(slices.Clone(crowd), deleting(2), deleting(1), creating(2*x.chunks()), x.filling(5, "z"))
	var l []story
	for _, ahead := range [][]api.Command{nil, {x.filling(0, "a")}, crowd, goesOn, moved, again} {
		for _, last := range x.lasts() {
			l = append(l, story{x, ahead, last})
		}
	}
	return l
}

// The power fails at each thing of the last commands, and behind the last one.
func TestAcknowledged(t *testing.T) {
	for _, x := range sites() {
		t.Run(fmt.Sprint(x), func(t *testing.T) {
			t.Parallel()
			for _, s := range x.stories() {
				s.checkFailures(t)
			}
		})
	}
}

// Steps of runs on several pages, of eight chunks, whose pages stand, or not, one by one.
func TestAcknowledgedLongSteps(t *testing.T) {
	x := site{300, 20, 1}
	for _, chunks := range [][]int{
		{0, 1, 2, 3, 4, 5, 6, 7}, {12, 13, 14, 15, 16, 17, 18, 19, 11, 10, 9, 8, 0, 1},
		{19, 0, 1, 18, 2, 3, 17, 4, 5, 16, 6, 7, 15, 8, 9, 14, 10, 11, 13, 12},
	} {
		ahead := []api.Command{x.filling(0, "a"), creating(len(chunks)), creating(20), creating(3), creating(1)}
		ahead = append(ahead, x.touching(1, "b", chunks...)...)
		ahead = append(ahead, writing(2, chunks[0], sectorOf("c")), merging(1))
		for x.bench(t, ahead...).merging != 0 {
			story{x, ahead, stepping()}.checkFailures(t)
			ahead = append(ahead, stepping())
		}
	}
}

// checkFailures lets the power fail at each thing of the last command, and behind the last one.
func (s story) checkFailures(t testing.TB) {
	t.Helper()
	b := s.bench(t, s.ahead...)
	for fuse := 0; b.failsAt(t, s.last, fuse); fuse++ {
	}
}

// failsAt tells whether a command fails with this fuse; the bench is left as it is.
func (b *bench) failsAt(t testing.TB, c api.Command, fuse int) bool {
	t.Helper()
	d, behind := b.disk.Clone(), b.plain.clone()
	want, wantErr := behind.do(c)
	v := mustOpen(t, d)
	d.Fail(fuse)
	r, err := v.Do(c)
	if err == api.ErrCrash {
		want, wantErr = api.Reply{}, err
	}
	if !same(r, want) || err != wantErr {
		t.Fatalf("%s, fuse %d = %q, %v, %d, want %q, %v, %d", short(c), fuse, r.Data, r.N, err, want.Data, want.N, wantErr)
	}
	for _, keep := range keeps(d.Pending()) {
		again := d.Clone()
		again.Restart(keep...)
		opened(t, again, 2, func(d *disk.Disk, v *Volume) {
			p := b.found(t, d, v)
			if err == api.ErrCrash {
				p.between(t, c, b.plain, behind)
			} else {
				checkVolume(t, v, behind)
			}
			goesOn(t, &bench{plain: p, disk: d, volume: v})
		})
	}
	return err == api.ErrCrash
}

// goesOn holds that what is found behind a failure is as any other: a merge goes on to its end, in as many steps as exceptions
// are left, at most; then all commands do what they do.
func goesOn(t testing.TB, b *bench) {
	t.Helper()
	for steps := b.left(); b.merging != 0; steps-- {
		if steps == 0 {
			t.Fatalf("the merge of %d goes on", b.merging)
		}
		b.mustDo(t, stepping())
	}
	for _, c := range []api.Command{writing(0, 0, sectorOf("next")), creating(1), writing(1, b.origin-1, sectorOf("other")), merging(1), stepping(), deleting(2)} {
		tells(t, b.volume, b.plain, c)
	}
	b.check(t)
}

// What a command did that told no error stands, whatever is done behind it that the power ends.
func TestAcknowledgedStands(t *testing.T) {
	x := even()
	b := x.bench(t, x.crowd()...)
	for i, c := range []api.Command{
		writing(0, 2, sectorsOf("f", 3)), writing(5, 0, sectorsOf("g", 8)), creating(2), writing(6, 1, sectorOf("h")), deleting(2), merging(6), writing(0, 1, sectorOf("i")), stepping(), merging(1), stepping(),
	} {
		b.do(t, c)
		b.disk.Write(x.sectors, sectorsOf("pending", 2)) // behind the layout
		die(b.disk)
		if _, err := b.volume.Do(writing(0, 0, sectorOf("j"))); err != api.ErrCrash {
			t.Errorf("%d: %d", i, err)
		}
		b.disk.Restart()
		b.volume = mustOpen(t, b.disk)
		b.check(t)
	}
}

// Each outcome that the order of writes allows is seen, and no other one, of the last step of a merge: a sector, a flush, a page,
// a flush, a slot, a flush; and what is not written of the slot is written while the disk is opened.
func TestEachOutcomeOfTheLastStep(t *testing.T) {
	x := small()
	b := x.bench(t, x.filling(0, "a"), creating(1), writing(1, 2, sectorOf("b")), merging(1))
	seen := map[string]int{}
	for fuse := range 7 {
		d := b.disk.Clone()
		v := mustOpen(t, d)
		d.Fail(fuse)
		if _, err := v.Do(stepping()); (err == api.OK) != (fuse == 6) {
			t.Fatalf("fuse %d: %d", fuse, err)
		}
		for _, keep := range keeps(d.Pending()) {
			again := d.Clone()
			again.Restart(keep...)
			again.Fail(0)
			_, err := Open(again)
			again.Restart()
			v := mustOpen(t, again)
			stands, _ := v.Engine().Origin().Read(2, 1)
			seen[fmt.Sprint(fuse, " ", stands == sectorOf("b"), " ", v.Engine().Merging(), " ", err == api.ErrCrash)]++
		}
	}
	want := []string{
		"0 false 1 false",
		"1 false 1 false", "1 true 1 false",
		"2 true 1 false",
		"3 true 1 false", "3 true 0 true", // the page stands, the slot is written by Open
		"4 true 0 true",
		"5 true 0 true", "5 true 0 false",
		"6 true 0 false",
	}
	for _, one := range want {
		if seen[one] == 0 {
			t.Errorf("%q is never seen: %v", one, seen)
		}
	}
	if len(seen) != len(want) {
		t.Errorf("%v, want %v", seen, want)
	}
}

// Behind a Format in which the power failed stands what stood, or it is formatted, or nothing can be opened; it can be
// formatted again.
func TestWhateverFailsInFormat(t *testing.T) {
	for _, f := range formats(t) {
		formatted := f.plain(f.disk)
		for fuse := range formatThings + 1 {
			d := f.disk.Clone()
			d.Fail(fuse)
			_, err := Format(d, f.super())
			for _, keep := range keeps(d.Pending()) {
				again := d.Clone()
				again.Restart(keep...)
				v, openErr := Open(again)
				if err == api.OK {
					checkVolume(t, v, formatted)
				}
				if openErr != api.OK && openErr != api.ErrCorrupt || (v == nil) != (openErr != api.OK) {
					t.Fatalf("%s, fuse %d: Open = %v, %d", f.what, fuse, v, openErr)
				}
				stood := f.plain(again)
				v, err := Format(again, f.super())
				if err != api.OK {
					t.Fatalf("%s, fuse %d: %d", f.what, fuse, err)
				}
				checkVolume(t, v, stood)
			}
		}
	}
}

// askAll does all commands, with a volume that may be behind an error: each ends, and none panics.
func askAll(v *Volume) {
	for _, id := range []int{-1, 0, 1, 2, 5, 17} {
		for _, c := range []api.Command{reading(id, 0, 3), writing(id, 0, sectorsOf("z", 3)), creating(1), merging(id), stepping(), deleting(id), {Op: "none"}} {
			v.Do(c)
		}
		v.Engine().IDs()
	}
}

// A volume that is asked behind a failure, also once its disk is restarted, does not panic.
func TestCommandsBehindAFailure(t *testing.T) {
	for _, x := range []site{even(), only()} {
		for _, s := range x.stories() {
			b := x.bench(t, s.ahead...)
			for fuse := range 12 {
				for _, restart := range []bool{false, true} {
					d := b.disk.Clone()
					v := mustOpen(t, d)
					d.Fail(fuse)
					v.Do(s.last)
					if restart {
						d.Restart(true, false, true)
					}
					askAll(v)
				}
			}
		}
	}
}
