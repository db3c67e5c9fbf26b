package merge

import (
	"fmt"
	"slices"
	"testing"

	"oakum/api"
	"oakum/disk"
	"oakum/slot"
)

// P17.4: whatever fails.

// keeps are ways to keep some of so many writes: all ways of a few; of more each alone, all but each, and each first ones.
func keeps(n int) [][]bool {
	if n > 7 {
		return keepsOfMany(n)
	}
	l := [][]bool{{}}
	for range n {
		var longer [][]bool
		for _, keep := range l {
			longer = append(longer, append(slices.Clone(keep), false), append(slices.Clone(keep), true))
		}
		l = longer
	}
	return l
}

func keepsOfMany(n int) [][]bool {
	l := [][]bool{{}}
	for i := range n {
		alone, but, first := make([]bool, n), make([]bool, n), make([]bool, n)
		for k := range n {
			alone[k], but[k], first[k] = k == i, k != i, k <= i
		}
		l = append(l, alone, but, first)
	}
	return l
}

// found is a plain one of all that an engine, which is opened, tells.
func (x site) found(t testing.TB, d *disk.Disk) *plain {
	t.Helper()
	e, p := mustOpen(t, d), x.plain(d)
	for i := range slotCount {
		p.gens[i] = genIn(t, d, i)
		told, err := e.Slot(i + 1)
		if err != api.OK {
			continue
		}
		n := x.room(told.Store.Len)
		s := &snapshot{at: told.Store, gen: told.Gen, merging: told.State == api.Merging, invalid: e.Store(i + 1).Invalid()}
		s.places, s.bytes = slices.Repeat([]int{-1}, n), make([]string, n)
		for _, entry := range e.Store(i + 1).All() {
			data, err := e.Store(i+1).Read(entry.Origin, 0, x.chunk)
			if err != api.OK {
				t.Fatalf("exception %v can't be read: %d", entry, err)
			}
			s.places[entry.Index], s.bytes[entry.Index] = entry.Origin, data
		}
		p.snaps[i] = s
	}
	return p
}

// genIn is a slot's generation, also of one that is Free.
func genIn(t testing.TB, d *disk.Disk, i int) uint32 {
	t.Helper()
	data, _ := d.Read(firstSlot+i, 1)
	x, err := slot.Decode(data)
	if err != api.OK {
		t.Fatalf("slot %d is none: %d", i, err)
	}
	return x.Gen
}

// between holds that what is found is as it was ahead of a Begin, a Step or a Finish, or as it is behind it: what the origin
// reads is the same in both (but for Begin); each slot; whether each snapshot is invalid, and what it reads; each exception.
func (p *plain) between(t testing.TB, ahead, behind *plain) {
	t.Helper()
	got, _ := p.reads(0)
	was, _ := ahead.reads(0)
	is, _ := behind.reads(0)
	if got != was && got != is {
		t.Fatalf("the origin reads %q, neither %q, nor %q", got, was, is)
	}
	for at, s := range p.stands {
		if s != ahead.stands[at] && s != behind.stands[at] {
			t.Fatalf("sector %d is %q, neither as it was ahead, nor as it is behind", at, s)
		}
	}
	if !slices.Equal(p.gens, ahead.gens) {
		t.Fatalf("generations %v, want %v", p.gens, ahead.gens)
	}
	for id := 1; id <= slotCount; id++ {
		p.snapshotBetween(t, id, ahead.snap(id), behind.snap(id))
		if p.refuses(id) != api.OK {
			continue
		}
		got, _ := p.reads(id)
		was, err := ahead.reads(id)
		if got != was || err != api.OK {
			t.Fatalf("snapshot %d reads %q, want %q, %d", id, got, was, err)
		}
	}
}

func (p *plain) snapshotBetween(t testing.TB, id int, ahead, behind *snapshot) {
	t.Helper()
	s := p.snap(id)
	switch {
	case s == nil && behind == nil:
		return
	case s == nil || ahead == nil:
		t.Fatalf("snapshot %d is %v, ahead it was %v, behind it is %v", id, s, ahead, behind)
	case s.slot() != ahead.slot() && (behind == nil || s.slot() != behind.slot()) && !(s.merging && behind == nil):
		t.Fatalf("slot %d is %v, ahead it was %v, behind it is %v", id, s.slot(), ahead.slot(), behind)
	case s.invalid != ahead.invalid && (behind == nil || s.invalid != behind.invalid):
		t.Fatalf("snapshot %d is invalid: %t", id, s.invalid)
	case s.invalid:
		return
	}
	for _, c := range s.chunks() {
		// One that gets invalid may have exceptions first, of which none is left behind the call.
		if ahead.place(c) == -1 && (behind == nil || !behind.invalid && behind.place(c) == -1) {
			t.Fatalf("snapshot %d has an exception of chunk %d", id, c)
		}
	}
	for _, c := range ahead.chunks() {
		goes := ahead.merging && behind.place(c) == -1
		if s.place(c) == -1 && !goes {
			t.Fatalf("snapshot %d has no exception of chunk %d", id, c)
		}
	}
}

// story is a disk with calls on it that tell what is right, and the last one, in which the power fails.
type story struct {
	site
	ahead []call
	last  call
}

// merged are calls by which the first snapshot goes back, with exceptions of some chunks, and others need places: the second
// snapshot has room for all, the third one for one chunk, the fourth one has none left, the fifth one has the first chunk's.
func (x site) merged(chunks ...int) []call {
	l := []call{x.filling(0, "a"), creating(len(chunks)), creating(x.chunks()), creating(1), creating(1), creating(x.chunks())}
	l = append(l, x.touching(1, "b", chunks...)...)
	l = append(l, writing(4, x.origin-1, sectorOf("c")), writing(5, chunks[0]*x.chunk, sectorOf("d")))
	return append(l, beginning(1))
}

// stories are Begins, Steps and Finishes in which the power fails.
func stories() []story {
	e, w := even(), site{260, 20, 1}
	alone := []call{e.filling(0, "a"), creating(4), writing(1, 1, sectorsOf("b", 4))}
	empty := []call{e.filling(0, "a"), creating(2), creating(1), marking(1, api.Merging)}
	l := []story{
		{e, alone, beginning(1)}, {e, alone[:2], beginning(1)}, {e, empty, stepping()}, {e, empty, finishing()},
		{e, append(slices.Clone(alone), beginning(1)), stepping()},
		{e, append(slices.Clone(alone), beginning(1), writing(0, 0, sectorsOf("e", 7))), stepping()},
		{e, append(e.merged(2, 0), writing(0, 3, sectorsOf("e", 2))), stepping()},
		{w, w.merged(3, 1, 2, 7), stepping()},
		{w, w.merged(0, 1, 2, 3, 4, 5, 6, 7), stepping()},
		{w, w.merged(12, 13, 14, 15, 16, 17, 18, 19, 11, 10, 9, 8, 0, 1), stepping()},
		{w, append(w.merged(12, 13, 14, 15, 16, 17, 18, 19, 11, 10, 9, 8, 0, 1, 7), stepping()), stepping()},
		{w, append(w.merged(12, 13, 14, 15, 16, 17, 18, 19, 11, 10, 9, 8, 0, 1, 7), stepping(), writing(0, 0, sectorsOf("e", 20))), stepping()},
	}
	for _, x := range []site{even(), cut(), {200, 11, 4}, only(), long()} {
		last := x.chunks() - 1
		l = append(l, story{x, x.merged(last), stepping()})
		if last > 1 {
			l = append(l, story{x, x.merged(last, last-1), stepping()}, story{x, x.merged(0, last), stepping()}, story{x, append(x.merged(0, last), stepping()), stepping()})
		}
	}
	return l
}

// The power fails at each write and flush, and behind the last one, with each of the pending writes kept or lost.
func TestWhateverFails(t *testing.T) {
	for i, x := range stories() {
		t.Run(fmt.Sprint(i, " ", x.last), func(t *testing.T) {
			b := x.bench(t, x.ahead...)
			for fuse := 0; b.failsAt(t, x.last, fuse); fuse++ {
			}
		})
	}
}

// failsAt tells whether a call fails with this fuse; the bench is left as it is.
func (b *bench) failsAt(t *testing.T, c call, fuse int) bool {
	t.Helper()
	d, behind := b.disk.Clone(), b.plain.clone()
	_, want, wantErr := c.onPlain(behind)
	e := mustOpen(t, d)
	d.Fail(fuse)
	n, err := c.on(e)
	if err == api.ErrCrash && n != 0 || err != api.ErrCrash && (n != want || err != wantErr) {
		t.Fatalf("fuse %d: %d, %d, want %d, %d", fuse, n, err, want, wantErr)
	}
	for _, keep := range keeps(d.Pending()) {
		again := d.Clone()
		again.Restart(keep...)
		p := b.found(t, again)
		if err == api.ErrCrash {
			p.between(t, b.plain, behind)
		} else {
			p.between(t, behind, behind)
		}
		goesOn(t, again, p)
	}
	return err == api.ErrCrash
}

// goesOn holds that what is found behind a failure is as any other: a merge goes on to its end, in as many Steps as exceptions
// are left, at most (but one, if none is), and the origin reads what it did; then another one may begin.
func goesOn(t *testing.T, d *disk.Disk, p *plain) {
	t.Helper()
	b := &bench{plain: p, disk: d, engine: mustOpen(t, d)}
	b.check(t)
	reads, _ := b.reads(0)
	steps := max(b.exceptions(), 1)
	for ; b.merging() != 0 && steps > 0; steps-- {
		b.mustDo(t, stepping())
		if s, err := b.engine.Read(0, 0, b.origin); s != reads || err != api.OK {
			t.Fatalf("the origin reads %q, %d, want %q", s, err, reads)
		}
	}
	if b.engine.Merging() != 0 {
		t.Fatalf("the merge of %d goes on, %d left", b.engine.Merging(), Left(b.engine))
	}
	b.mustDo(t, creating(1), writing(0, 0, sectorOf("next")))
	for _, id := range b.ids() {
		b.tells(t, beginning(id))
	}
	for b.merging() != 0 {
		b.mustDo(t, stepping())
	}
	b.check(t)
	d.Restart()
	checkEngine(t, mustOpen(t, d), b.plain)
}

// Each outcome that the order of writes allows is seen, and no other one, of a Step that moves a chunk of one sector, that a
// second snapshot needs: it has the exception ahead of the origin's sector, that stands ahead of the end of the first
// snapshot's one, and that is ahead of the snapshot's end.
func TestEachOutcomeOfAStep(t *testing.T) {
	x := site{60, 4, 1}
	b := x.bench(t, x.filling(0, "a"), creating(1), creating(1), writing(1, 2, sectorOf("b")), beginning(1))
	seen := map[string]bool{}
	for fuse := range 11 { // a copy, a flush, a page, a flush; a sector, a flush; a page, a flush; a slot, a flush; and none of them fails
		d := b.disk.Clone()
		e := mustOpen(t, d)
		d.Fail(fuse)
		if _, err := Step(e); (err == api.OK) != (fuse == 10) {
			t.Fatalf("fuse %d: %d", fuse, err)
		}
		for _, keep := range keeps(d.Pending()) {
			again := d.Clone()
			again.Restart(keep...)
			e := mustOpen(t, again)
			s, _ := e.Origin().Read(2, 1)
			seen[fmt.Sprint(fuse, " ", e.Store(2).Has(2), " ", s == sectorOf("b"), " ", Left(e), " ", e.Merging())] = true
		}
	}
	want := []string{
		"0 false false 1 1", "1 false false 1 1", "2 false false 1 1",
		"3 false false 1 1", "3 true false 1 1",
		"4 true false 1 1",
		"5 true false 1 1", "5 true true 1 1",
		"6 true true 1 1",
		"7 true true 1 1", "7 true true 0 1",
		"8 true true 0 1",
		"9 true true 0 1", "9 true true 0 0",
		"10 true true 0 0",
	}
	if len(seen) != len(want) {
		t.Errorf("%v, want %v", seen, want)
	}
	for _, one := range want {
		if !seen[one] {
			t.Errorf("%q is never seen: %v", one, seen)
		}
	}
}

// The power fails in each Step, again and again, while a merge goes on to its end.
func TestFailsAgainAndAgain(t *testing.T) {
	for i, x := range sites() {
		for seed := range 25 {
			r := numbers(i*100 + seed + 3)
			b := x.bench(t, x.filling(0, "a"), creating(x.chunks()))
			for range 3 {
				b.tells(t, creating(1+r.below(x.chunks())))
			}
			for range 1 + r.below(12) {
				b.tells(t, writing(r.below(3), r.below(x.origin), sectorOf("b", r.below(1000))))
			}
			b.tells(t, beginning(1))
			reads, _ := b.reads(0)
			for b.merging() != 0 {
				b.failsSomewhere(t, &r, stepping())
				if s, _ := b.reads(0); s != reads {
					t.Fatalf("the origin of %v reads %q, want %q", x, s, reads)
				}
				if r.below(4) == 0 {
					b.tells(t, stepping())
				}
			}
			b.check(t)
		}
	}
}

// failsSomewhere does a call that fails somewhere, or not at all, and opens the disk again.
func (b *bench) failsSomewhere(t testing.TB, r *numbers, c call) {
	t.Helper()
	behind := b.plain.clone()
	_, want, wantErr := c.onPlain(behind)
	b.disk.Fail(r.below(40))
	n, err := c.on(b.engine)
	ahead := b.plain
	if err != api.ErrCrash {
		ahead = behind
		if n != want || err != wantErr {
			t.Fatalf("%v of %v = %d, %d, want %d, %d", c, b.site, n, err, want, wantErr)
		}
	}
	keep := make([]bool, b.disk.Pending())
	for k := range keep {
		keep[k] = r.below(2) == 0
	}
	b.disk.Restart(keep...)
	b.plain = b.found(t, b.disk)
	b.plain.between(t, ahead, behind)
	b.engine = mustOpen(t, b.disk)
}
