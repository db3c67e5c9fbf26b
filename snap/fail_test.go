package snap

import (
	"fmt"
	"slices"
	"strings"
	"testing"

	"oakum/api"
	"oakum/disk"
	"oakum/slot"
)

// P16.3: whatever fails.

// keeps are ways to keep some of so many writes: all ways of a few; of more each alone, all but each, and each first ones.
func keeps(n int) [][]bool {
	if n > 7 {
		return keepsOfMany(n)
	}
	l := [][]bool{{}}
	for range n {
		var longer [][]bool
		for _, keep := range l {
			longer = append(longer, append(slices.Clone(keep), false), append(slices.Clone(keep), true))
		}
		l = longer
	}
	return l
}

func keepsOfMany(n int) [][]bool {
	l := [][]bool{{}}
	for i := range n {
		alone, but, first := make([]bool, n), make([]bool, n), make([]bool, n)
		for k := range n {
			alone[k], but[k], first[k] = k == i, k != i, k <= i
		}
		l = append(l, alone, but, first)
	}
	return l
}

// found is a plain one of all that an engine, which is opened, tells.
func (x site) found(t testing.TB, d *disk.Disk) *plain {
	t.Helper()
	e, p := mustOpen(t, d), x.plain(d)
	for i := range slotCount {
		p.gens[i] = genIn(t, d, i)
		told, err := e.Slot(i + 1)
		if err != api.OK {
			continue
		}
		n := x.room(told.Store.Len)
		s := &snapshot{at: told.Store, gen: told.Gen, merging: told.State == api.Merging, invalid: e.Store(i + 1).Invalid()}
		s.places, s.bytes = slices.Repeat([]int{-1}, n), make([]string, n)
		for _, entry := range e.Store(i + 1).All() {
			data, err := e.Store(i+1).Read(entry.Origin, 0, x.chunk)
			if err != api.OK {
				t.Fatalf("exception %v can't be read: %d", entry, err)
			}
			s.places[entry.Index], s.bytes[entry.Index] = entry.Origin, data
		}
		p.snaps[i] = s
	}
	return p
}

// genIn is a slot's generation, also of one that is Free.
func genIn(t testing.TB, d *disk.Disk, i int) uint32 {
	t.Helper()
	data, _ := d.Read(firstSlot+i, 1)
	x, err := slot.Decode(data)
	if err != api.OK {
		t.Fatalf("slot %d is none: %d", i, err)
	}
	return x.Gen
}

// states are those of all slots, as a text.
func (p *plain) states() string {
	var l []string
	for i, s := range p.snaps {
		if s == nil {
			l = append(l, fmt.Sprint("free ", p.gens[i]))
		} else {
			l = append(l, fmt.Sprint(s.slot(), len(s.places)))
		}
	}
	return strings.Join(l, "; ")
}

// between holds that what is found is as it was ahead of a call, or as it is behind it: the slots all together; of each
// snapshot whether it is invalid; each sector that is read; and, of what is read from there, each exception.
func (p *plain) between(t testing.TB, c call, ahead, behind *plain) {
	t.Helper()
	if p.states() != ahead.states() && p.states() != behind.states() {
		t.Fatalf("slots %s, want %s, or %s", p.states(), ahead.states(), behind.states())
	}
	whole := []*plain{ahead, behind}
	if p.states() != ahead.states() {
		whole = []*plain{behind}
	} else if p.states() != behind.states() {
		whole = []*plain{ahead}
	}
	for id := range slotCount + 1 {
		p.snapshotBetween(t, c, id, whole)
	}
}

func (p *plain) snapshotBetween(t testing.TB, c call, id int, whole []*plain) {
	t.Helper()
	var valid []*plain
	told := false
	for _, q := range whole {
		told = told || q.refuses(id) == p.refuses(id)
		if q.refuses(id) == api.OK {
			valid = append(valid, q)
		}
	}
	if !told {
		t.Fatalf("%d is told of snapshot %d", p.refuses(id), id)
	}
	if p.refuses(id) == api.OK {
		for at := range p.origin {
			same := slices.ContainsFunc(valid, func(q *plain) bool { return q.sector(id, at) == p.sector(id, at) })
			// A snapshot that gets invalid in its own write is written up to there: ahead of that these sectors are so, too.
			if !same && (len(valid) == len(whole) || !c.writes(id, at, p.sector(id, at))) {
				t.Fatalf("sector %d of %d is %q, neither as it was ahead, nor as it is behind", at, id, p.sector(id, at))
			}
		}
	}
	// One that gets invalid may have exceptions first, of which none is left behind the call.
	if s := p.snap(id); s != nil && !s.invalid && len(valid) == len(whole) {
		s.exceptionsBetween(t, id, whole)
	}
}

// writes tells whether a call writes a sector so.
func (c call) writes(id, at int, data string) bool {
	return c.op == "write" && c.id == id && slices.Contains(written(c.at, c.data), thing{at, data})
}

func (s *snapshot) exceptionsBetween(t testing.TB, id int, whole []*plain) {
	t.Helper()
	for _, x := range s.all() {
		if !slices.ContainsFunc(whole, func(q *plain) bool { return slices.Contains(q.snap(id).all(), x) }) {
			t.Fatalf("snapshot %d has %v", id, x)
		}
	}
	for _, x := range whole[0].snap(id).all() {
		if !slices.Contains(s.all(), x) {
			t.Fatalf("snapshot %d has %v, but not %v", id, s.all(), x)
		}
	}
}

// story is a disk with calls on it that tell what is right, and the last one, in which the power fails.
type story struct {
	site
	ahead []call
	last  call
}

// invalidOne is three snapshots: the first one is full, the second one has room for all, the third one is invalid.
func (x site) invalidOne() []call {
	return []call{x.filling(0, "a"), creating(1), creating(x.chunks()), creating(1), writing(3, x.origin-1, sectorOf("b")), writing(0, 0, sectorOf("c")), writing(2, x.origin-1, sectorOf("d"))}
}

func createStories() []story {
	x, w := even(), single()
	three := []call{x.filling(0, "a"), creating(1), creating(2), creating(1), writing(0, 7, sectorOf("b"))}
	return []story{
		{x, nil, creating(1)}, {x, nil, creating(13)}, {x, nil, creating(14)}, {x, nil, creating(16)}, {w, nil, creating(53)},
		{x, three, creating(2)}, {x, append(slices.Clone(three), deleting(2)), creating(1)}, {x, append(slices.Clone(three), deleting(3), deleting(1)), creating(1)},
		{x, []call{x.filling(0, "a"), creating(4), x.filling(1, "b"), x.filling(0, "c"), deleting(1)}, creating(4)},
		{x, []call{x.filling(0, "a"), creating(1), writing(0, 0, sectorsOf("b", 3)), deleting(1)}, creating(2)},
	}
}

func markStories() []story {
	x := even()
	four := x.invalidOne()
	var l []story
	for id := 1; id <= 3; id++ {
		l = append(l, story{x, four, marking(id, api.Used)}, story{x, four, marking(id, api.Free)}, story{x, four, deleting(id)})
	}
	merging := append(slices.Clone(four), marking(2, api.Merging), writing(0, 0, sectorsOf("e", 8)))
	return append(l, story{x, four, marking(2, api.Merging)}, story{x, four, marking(1, api.Merging)}, story{x, merging, marking(2, api.Free)}, story{x, merging, marking(2, api.Merging)}, story{x, merging, deleting(1)}, story{x, merging, deleting(3)})
}

func writeStories() []story {
	var l []story
	for _, x := range []site{even(), cut(), only(), {60, 6, 1}} {
		last := x.origin - 1
		room := []call{x.filling(0, "a"), creating(x.chunks()), creating(x.chunks()), writing(2, 0, sectorOf("b"))}
		merging := append(slices.Clone(room), marking(2, api.Merging))
		l = append(l,
			story{x, nil, writing(0, 0, sectorsOf("x", 3))},
			story{x, nil, writing(0, last, sectorOf("x"))},
			story{x, room, writing(0, 0, sectorsOf("x", min(3, x.origin)))},
			story{x, room, writing(0, last, sectorOf("x"))},
			story{x, room, writing(1, 0, sectorsOf("x", 3))},
			story{x, room, writing(2, 0, sectorsOf("x", 3))},
			story{x, room, writing(1, last, sectorOf("x"))},
			story{x, room, writing(2, 0, "")},
			story{x, x.invalidOne(), writing(0, last, sectorOf("x"))},
			story{x, x.invalidOne(), writing(0, 0, sectorsOf("x", 3))},
			story{x, x.invalidOne(), writing(2, last, sectorOf("x"))},
			story{x, x.invalidOne(), writing(1, 0, sectorsOf("x", 3))},
			story{x, merging, writing(0, 0, sectorsOf("x", 3))},
			story{x, merging, writing(0, last, sectorOf("x"))},
			story{x, merging, writing(1, 0, sectorsOf("x", 3))},
			story{x, room, saving(0)},
			story{x, x.invalidOne(), saving(x.chunks() - 1)},
			story{x, merging, saving(x.chunks() - 1)},
		)
	}
	x := single()
	full := []call{x.filling(0, "a"), creating(1), creating(14), creating(3), creating(1), writing(3, 0, sectorOf("b")), writing(4, 19, sectorOf("c"))}
	return append(l, story{x, full, writing(0, 2, sectorsOf("x", 4))}, story{x, full, writing(3, 2, sectorsOf("x", 4))}, story{x, full, writing(2, 6, sectorsOf("x", 14))})
}

func TestWhateverFailsInCreate(t *testing.T) { failAll(t, createStories()) }
func TestWhateverFailsInMark(t *testing.T)   { failAll(t, markStories()) }
func TestWhateverFailsInWrite(t *testing.T)  { failAll(t, writeStories()) }

// failAll lets the power fail at each thing of the last calls, and behind the last one, with each of the pending writes kept
// or lost.
func failAll(t *testing.T, l []story) {
	t.Helper()
	for i, x := range l {
		t.Run(fmt.Sprint(i, " ", x.last), func(t *testing.T) {
			b := x.bench(t, x.ahead...)
			for fuse := 0; b.failsAt(t, x.last, fuse); fuse++ {
			}
		})
	}
}

// failsAt tells whether a call fails with this fuse; the bench is left as it is.
func (b *bench) failsAt(t *testing.T, c call, fuse int) bool {
	t.Helper()
	d, behind := b.disk.Clone(), b.plain.clone()
	_, want, wantErr := c.onPlain(behind)
	e := mustOpen(t, d)
	d.Fail(fuse)
	id, err := c.on(e)
	if err != api.ErrCrash && (id != want || err != wantErr) {
		t.Fatalf("fuse %d: %d, %d, want %d, %d", fuse, id, err, want, wantErr)
	}
	for _, keep := range keeps(d.Pending()) {
		again := d.Clone()
		again.Restart(keep...)
		p := b.found(t, again)
		if err == api.ErrCrash {
			p.between(t, c, b.plain, behind)
		} else {
			p.between(t, c, behind, behind)
		}
		goesOn(t, again, p)
	}
	return err == api.ErrCrash
}

// goesOn holds that what is found behind a failure is an engine as any other.
func goesOn(t *testing.T, d *disk.Disk, p *plain) {
	t.Helper()
	b := &bench{plain: p, disk: d, engine: mustOpen(t, d)}
	b.check(t)
	for _, c := range []call{b.filling(0, "next"), creating(1), deleting(1)} {
		_, want, wantErr := c.onPlain(b.plain)
		if id, err := c.on(b.engine); id != want || err != wantErr {
			t.Fatalf("%v = %d, %d, want %d, %d", c, id, err, want, wantErr)
		}
	}
	b.check(t)
	d.Restart()
	checkEngine(t, mustOpen(t, d), b.plain)
}

// Behind Format without an error there is an engine without snapshots; behind a failure in it either that, or what stood
// there, of whose snapshots some may be no more; or, where nothing stood, nothing.
func TestWhateverFailsInFormat(t *testing.T) {
	x := even()
	full := x.bench(t, x.invalidOne()...)
	for what, d := range map[string]*disk.Disk{"junk": x.junk(), "one as it": full.disk, "another one": site{63, 12, 3}.bench(t).disk} {
		for fuse := range 20 {
			after := d.Clone()
			after.Fail(fuse)
			err := Format(after, x.super())
			if (err == api.OK) != (fuse == 19) || err != api.OK && err != api.ErrCrash {
				t.Fatalf("%s, fuse %d: %d", what, fuse, err)
			}
			for _, keep := range keeps(after.Pending()) {
				again := after.Clone()
				again.Restart(keep...)
				checkFormatted(t, what, x, again, fuse, full.plain)
				if err := Format(again, x.super()); err != api.OK {
					t.Fatal(err)
				}
				checkEngine(t, mustOpen(t, again), x.plain(again))
			}
		}
	}
}

func checkFormatted(t *testing.T, what string, x site, d *disk.Disk, fuse int, full *plain) {
	t.Helper()
	e, err := Open(d)
	switch {
	case err == api.OK && e.Super() == x.super():
	case err == api.OK && what == "another one" && len(e.IDs()) == 0 && fuse < 19:
		return
	case err == api.ErrCorrupt && what == "junk" && fuse < 19:
		return
	default:
		t.Fatalf("%s, fuse %d: Open = %v, %d", what, fuse, e, err)
	}
	if s, err := e.Read(0, 0, x.origin); s != strings.Join(x.plain(d).stands, "") || err != api.OK {
		t.Fatalf("%s, fuse %d: %q is read, %d", what, fuse, s, err)
	}
	for _, id := range e.IDs() {
		if s, err := e.Slot(id); what != "one as it" || s != full.snap(id).slot() || err != api.OK || fuse > 16 {
			t.Fatalf("%s, fuse %d: snapshot %d is %v", what, fuse, id, s)
		}
	}
}

// Format writes the superblock only behind a flush: it is never found ahead of the slots.
func TestFormatIsFoundBehindTheSlots(t *testing.T) {
	x := even()
	seen := map[string]bool{}
	for fuse := range 20 {
		d := x.junk()
		d.Fail(fuse)
		Format(d, x.super())
		for _, keep := range keeps(d.Pending()) {
			again := d.Clone()
			again.Restart(keep...)
			_, err := Open(again)
			seen[fmt.Sprint(fuse, " ", int(err))] = true
		}
	}
	for fuse := range 18 {
		if seen[fmt.Sprint(fuse, " ", int(api.OK))] {
			t.Errorf("with fuse %d it is found", fuse)
		}
	}
	for _, want := range []string{"18 0", "18 165", "19 0"} {
		if !seen[want] {
			t.Errorf("%s is never seen", want)
		}
	}
	if seen["19 165"] {
		t.Error("behind Format it is not found")
	}
}

// Each outcome that the order of writes allows is seen, and no other one: of a write of a sector of the origin, of which one
// snapshot gets an exception, and then another one gets invalid, the sector is changed only behind both.
func TestEachOutcomeOfAWrite(t *testing.T) {
	x := even()
	b := x.bench(t, x.filling(0, "a"), creating(2), creating(1), writing(2, 0, sectorOf("b")))
	seen := map[string]bool{}
	for fuse := range 10 { // two sectors, a flush, a page, a flush; a head, a flush; a sector, a flush; and none of them fails
		d := b.disk.Clone()
		e := mustOpen(t, d)
		d.Fail(fuse)
		if err := e.Write(0, 2, sectorOf("x")); (err == api.OK) != (fuse == 9) {
			t.Fatalf("fuse %d: %d", fuse, err)
		}
		for _, keep := range keeps(d.Pending()) {
			again := d.Clone()
			again.Restart(keep...)
			e := mustOpen(t, again)
			s, _ := e.Read(0, 2, 1)
			seen[fmt.Sprint(fuse, " ", e.Store(1).Has(1), " ", e.Store(2).Invalid(), " ", s == sectorOf("x"))] = true
		}
	}
	want := []string{
		"0 false false false", "1 false false false", "2 false false false", "3 false false false",
		"4 false false false", "4 true false false",
		"5 true false false",
		"6 true false false", "6 true true false",
		"7 true true false",
		"8 true true false", "8 true true true",
		"9 true true true",
	}
	if len(seen) != len(want) {
		t.Errorf("%v, want %v", seen, want)
	}
	for _, one := range want {
		if !seen[one] {
			t.Errorf("%q is never seen: %v", one, seen)
		}
	}
}

// P1: behind an error of the disk an engine is not used any more; but each call on it ends, and none panics.
func TestCallsBehindAFailure(t *testing.T) {
	for _, x := range slices.Concat(createStories(), markStories(), writeStories()) {
		b := x.bench(t, x.ahead...)
		for fuse := range 9 {
			for _, restart := range []bool{false, true} {
				d := b.disk.Clone()
				e := mustOpen(t, d)
				d.Fail(fuse)
				x.last.on(e)
				if restart {
					d.Restart(true, false, true)
				}
				askAll(e, x.site)
			}
		}
	}
}

// askAll does all calls of an engine.
func askAll(e *Engine, x site) {
	e.Super()
	e.Origin().Read(0, 1)
	e.Merging()
	e.Free()
	for _, id := range append(e.IDs(), -1, 0, 1, 17) {
		e.Slot(id)
		e.Store(id).All()
		e.Read(id, 0, x.origin)
		e.Write(id, 0, sectorsOf("y", x.origin))
		e.Save(id)
		e.Create(id)
		e.Mark(id, api.Merging)
		e.Read(0, 0, x.origin)
		e.Write(0, 0, sectorsOf("z", x.origin))
		e.Mark(id, api.Used)
		e.Delete(id)
	}
}
