package snap

import (
	"math"
	"slices"
	"strings"
	"testing"

	"oakum/api"
	"oakum/disk"
	"oakum/head"
	"oakum/layout"
	"oakum/slot"
	"oakum/store"
)

// P16.1, V1: Format.

// formatThings are what Format does: 16 slots, a flush, the superblock, a flush.
func (x site) formatThings(t testing.TB) []thing {
	t.Helper()
	free, _ := slot.Encode(api.Slot{})
	var things []thing
	for i := range slotCount {
		things = append(things, thing{firstSlot + i, free})
	}
	return append(things, flush, thing{0, mustEncode(t, x.super())}, flush)
}

// badSupers may not be.
func badSupers() []api.Super {
	return []api.Super{
		{}, {Sectors: 60}, {Sectors: 60, Origin: 8}, {Sectors: 60, Chunk: 2}, {Origin: 8, Chunk: 2},
		{Sectors: 24, Origin: 8, Chunk: 2}, {Sectors: 60, Origin: 44, Chunk: 2}, {Sectors: 60, Origin: 0, Chunk: 2}, {Sectors: 60, Origin: -1, Chunk: 2},
		{Sectors: 60, Origin: 8, Chunk: 0}, {Sectors: 60, Origin: 8, Chunk: -1}, {Sectors: 60, Origin: 8, Chunk: 129},
		{Sectors: diskEnd + 1, Origin: 8, Chunk: 2}, {Sectors: -1, Origin: 8, Chunk: 2}, {Sectors: math.MaxInt, Origin: 8, Chunk: 2}, {Sectors: math.MinInt, Origin: math.MaxInt, Chunk: math.MaxInt},
		{Sectors: 60, Origin: math.MaxInt, Chunk: 2}, {Sectors: math.MaxInt, Origin: math.MaxInt, Chunk: 1},
	}
}

func TestFormatWritesThingByThing(t *testing.T) {
	for _, x := range append(sites(), site{25, 8, 2}) {
		format := func(d *disk.Disk, fuse int) api.Errno {
			d.Fail(fuse)
			return Format(d, x.super())
		}
		checkThings(t, x.junk(), format, x.formatThings(t), api.OK)
		d := x.formatted(t)
		b := &bench{plain: x.plain(d), disk: d, engine: mustOpen(t, d)}
		b.check(t)
		if d.Pending() != 0 || d.Sectors() != x.sectors+3 {
			t.Errorf("of %v: %d pending, %d sectors", x, d.Pending(), d.Sectors())
		}
	}
}

// Nothing but the superblock and the slots is written: the origin reads what stood there.
func TestFormatLeavesTheRest(t *testing.T) {
	x := even()
	d := x.formatted(t)
	if behind := firstOrigin * sectorSize; d.Bytes()[behind:] != x.junk().Bytes()[behind:] {
		t.Error("other bytes stand behind the slots")
	}
	if s, err := mustOpen(t, d).Read(0, 0, 8); s != x.junk().Bytes()[17*64:25*64] || err != api.OK {
		t.Errorf("Read = %q, %d", s, err)
	}
}

func TestFormatOfWrongSuperblocks(t *testing.T) {
	x := even()
	for _, s := range badSupers() {
		for _, d := range []*disk.Disk{nil, disk.New(0), x.junk(), x.formatted(t)} {
			before := d.Clone()
			d.Fail(0)
			if err := Format(d, s); err != api.ErrArg || d.Dead() {
				t.Errorf("Format of %v = %d, want ErrArg", s, err)
			}
			d.Fail(-1)
			checkDisks(t, d, before)
		}
	}
	if err := Format(nil, x.super()); err != api.ErrArg {
		t.Errorf("Format of a nil disk = %d, want ErrArg", err)
	}
}

func TestFormatOfDisksCutShort(t *testing.T) {
	for _, x := range sites() {
		for _, n := range []int{0, 1, 16, 17, x.sectors - 2, x.sectors - 1, x.sectors, x.sectors + 1, 2 * x.sectors} {
			for _, dead := range []bool{false, true} {
				want := api.OK
				switch {
				case n < x.sectors:
					want = api.ErrRange
				case dead:
					want = api.ErrCrash
				}
				d := disk.New(n)
				if dead {
					die(d)
				}
				if err := Format(d, x.super()); err != want || d.Pending() != 0 {
					t.Errorf("Format of %v on %d sectors, dead %t = %d, want %d", x, n, dead, err, want)
				}
				if want != api.OK && d.Bytes() != disk.New(n).Bytes() {
					t.Errorf("Format of %v on %d sectors writes", x, n)
				}
			}
		}
	}
}

// A disk that is formatted once more has no snapshot, and its generations begin from 1 on.
func TestFormatOnceMore(t *testing.T) {
	x := even()
	b := x.bench(t, x.filling(0, "a"), creating(1), creating(2), marking(2, api.Merging))
	if err := Format(b.disk, x.super()); err != api.OK {
		t.Fatal(err)
	}
	c := &bench{plain: x.plain(b.disk), disk: b.disk, engine: mustOpen(t, b.disk)}
	c.check(t)
	c.do(t, creating(1))
	if s, err := c.engine.Slot(1); s.Gen != 1 || err != api.OK {
		t.Errorf("Slot(1) = %v, %d", s, err)
	}
	y := site{50, 9, 3}
	if err := Format(b.disk, y.super()); err != api.OK {
		t.Fatal(err)
	}
	c = &bench{plain: y.plain(b.disk), disk: b.disk, engine: mustOpen(t, b.disk)}
	c.check(t)
}

// P16.1, V1: Open.

func checkCorrupt(t testing.TB, what string, d *disk.Disk) {
	t.Helper()
	before := d.Clone()
	d.Fail(0)
	if e, err := Open(d); e != nil || err != api.ErrCorrupt {
		t.Errorf("Open, %s = %v, %d, want ErrCorrupt", what, e, err)
	}
	if d.Dead() {
		t.Errorf("Open, %s, does something on the disk", what)
	}
	d.Fail(-1)
	checkDisks(t, d, before)
	die(d)
	if e, err := Open(d); e != nil || err != api.ErrCrash {
		t.Errorf("Open, %s, of a dead disk = %v, %d, want ErrCrash", what, e, err)
	}
}

func TestOpenOfNoDisk(t *testing.T) {
	if e, err := Open(nil); e != nil || err != api.ErrArg {
		t.Errorf("Open of a nil disk = %v, %d, want ErrArg", e, err)
	}
	for _, d := range []*disk.Disk{disk.New(0), disk.New(1), disk.New(60), even().junk(), even().formatted(t)} {
		die(d)
		if e, err := Open(d); e != nil || err != api.ErrCrash {
			t.Errorf("Open of a dead disk = %v, %d, want ErrCrash", e, err)
		}
	}
}

func TestOpenWithoutSuperblock(t *testing.T) {
	x := even()
	checkCorrupt(t, "no sectors", disk.New(0))
	checkCorrupt(t, "one sector", disk.New(1))
	checkCorrupt(t, "bytes 0", disk.New(60))
	checkCorrupt(t, "junk", x.junk())
	whole := x.formatted(t)
	for i := range sectorSize {
		b := []byte(whole.Bytes()[:sectorSize])
		b[i] ^= 1
		d := whole.Clone()
		setSector(t, d, 0, string(b))
		checkCorrupt(t, "a superblock's byte is another one", d)
	}
	free, _ := slot.Encode(api.Slot{})
	d := whole.Clone()
	setSector(t, d, 0, free)
	checkCorrupt(t, "a slot instead of a superblock", d)
}

func TestOpenOfDisksCutShort(t *testing.T) {
	for _, x := range sites() {
		whole := x.formatted(t).Bytes()
		for _, n := range []int{1, 2, 17, 18, x.sectors - 2, x.sectors - 1} {
			checkCorrupt(t, "cut short", disk.Load(whole[:n*sectorSize]))
		}
		for _, n := range []int{x.sectors, x.sectors + 1} {
			d := disk.Load(whole[:n*sectorSize])
			checkEngine(t, mustOpen(t, d), x.plain(d))
		}
	}
}

func TestOpenWithSlotsThatAreNones(t *testing.T) {
	x := even()
	sealed := mustEncode(t, x.super())
	for id := 1; id <= slotCount; id++ {
		for _, data := range []string{strings.Repeat("\x00", sectorSize), sectorOf("junk"), sealed} {
			d := x.formatted(t)
			setSector(t, d, firstSlot+id-1, data)
			checkCorrupt(t, "a slot that is none's", d)
		}
	}
}

// stored is a disk with empty stores and their slots, wherever these are.
func (x site) stored(t testing.TB, slots ...api.Slot) *disk.Disk {
	t.Helper()
	d := x.formatted(t)
	l, err := layout.Of(x.super())
	if err != api.OK {
		t.Fatal(err)
	}
	for i, s := range slots {
		store.Create(d, l, s.Store, s.Gen) // where there can be none there is none
		setSlot(t, d, i+1, s)
	}
	return d
}

func used(start, n int, gen uint32) api.Slot {
	return api.Slot{State: api.Used, Store: api.Extent{Start: start, Len: n}, Gen: gen}
}

func merging(start, n int, gen uint32) api.Slot {
	s := used(start, n, gen)
	s.State = api.Merging
	return s
}

func free(gen uint32) api.Slot { return api.Slot{Gen: gen} }

// plainOf is a plain one with empty stores.
func (x site) plainOf(d *disk.Disk, slots ...api.Slot) *plain {
	p := x.plain(d)
	for i, s := range slots {
		p.gens[i] = s.Gen
		if s.State != api.Free {
			n := x.room(s.Store.Len)
			p.snaps[i] = &snapshot{at: s.Store, gen: s.Gen, merging: s.State == api.Merging, places: slices.Repeat([]int{-1}, n), bytes: make([]string, n)}
		}
	}
	return p
}

// The stores of even stand from sector 25 on, up to 59.
func TestOpenWithStores(t *testing.T) {
	x := even()
	for _, slots := range [][]api.Slot{
		{used(25, 35, 1)},
		{used(25, 4, 7), used(29, 31, 3)},
		{used(56, 4, 1), used(25, 6, 1)},
		{free(9), used(56, 4, 8), free(0), merging(30, 26, greatestGen)},
		{merging(25, 35, 1)},
		{free(1), free(greatestGen)},
		{used(30, 5, 2), used(40, 17, 4)},
	} {
		d := x.stored(t, slots...)
		b := &bench{plain: x.plainOf(d, slots...), disk: d, engine: mustOpen(t, d)}
		b.check(t)
	}
}

func TestOpenWithStoresThatMayNotBe(t *testing.T) {
	x := even()
	for what, slots := range map[string][]api.Slot{
		"ahead of all":                 {used(24, 4, 1)},
		"in the origin":                {used(17, 8, 1)},
		"in the slots":                 {used(2, 10, 1)},
		"over the superblock":          {used(0, 60, 1)},
		"behind all":                   {used(57, 4, 1)},
		"just behind all":              {used(60, 4, 1)},
		"far behind all":               {used(diskEnd-4, 4, 1)},
		"over each other":              {used(25, 4, 1), used(28, 4, 2)},
		"the same":                     {used(25, 4, 1), used(25, 4, 1)},
		"one in the other":             {used(25, 30, 1), used(40, 4, 2)},
		"the last one over the first":  {used(30, 4, 1), used(25, 4, 2), used(26, 6, 3)},
		"two that are Merging":         {merging(25, 4, 1), merging(30, 4, 2)},
		"three that are Merging":       {used(25, 4, 1), merging(30, 4, 2), merging(35, 4, 3), merging(40, 4, 4)},
		"one sector":                   {used(25, 1, 1)},
		"two sectors":                  {used(25, 2, 1)},
		"room for none":                {used(25, 3, 1)},
		"the second has room for none": {used(25, 4, 1), merging(40, 3, 2)},
	} {
		checkCorrupt(t, what, x.stored(t, slots...))
	}
}

// Two stores that could be opened both, if they did not lie over each other: one stands in the other's chunk.
func TestOpenWithAStoreInAnother(t *testing.T) {
	x := even()
	d := x.stored(t, used(25, 20, 1), used(30, 4, 2))
	l, _ := layout.Of(x.super())
	for _, s := range []api.Slot{used(25, 20, 1), used(30, 4, 2)} {
		if _, err := store.Open(d, l, s.Store, s.Gen); err != api.OK {
			t.Fatalf("%v can't be opened: %d", s, err)
		}
	}
	alone := d.Clone()
	setSlot(t, alone, 1, free(1))
	mustOpen(t, alone)
	checkCorrupt(t, "a store in another one", d)
}

func TestOpenWithStoresThatCannotBeOpened(t *testing.T) {
	x := even()
	for _, state := range []api.State{api.Used, api.Merging} {
		for id := 1; id <= slotCount; id++ {
			s := api.Slot{State: state, Store: api.Extent{Start: 40, Len: 6}, Gen: 3}
			slots := make([]api.Slot, slotCount)
			slots[id-1] = s
			mustOpen(t, x.stored(t, slots...))
			for _, sector := range []int{40, 41} {
				d := x.stored(t, slots...)
				setSector(t, d, sector, sectorOf("junk"))
				checkCorrupt(t, "a head or page that is none", d)
			}
			for _, other := range []api.Slot{{State: state, Store: s.Store, Gen: 2}, {State: state, Store: s.Store, Gen: 4}, {State: state, Store: api.Extent{Start: 40, Len: 8}, Gen: 3}, {State: state, Store: api.Extent{Start: 40, Len: 4}, Gen: 3}, {State: state, Store: api.Extent{Start: 39, Len: 6}, Gen: 3}} {
				d := x.stored(t, slots...)
				setSlot(t, d, id, other)
				checkCorrupt(t, "another generation, room, or place", d)
			}
		}
	}
}

// An invalid store can be opened, unless its slot is Merging; its pages are not looked at.
func TestOpenWithInvalidStores(t *testing.T) {
	x := even()
	invalid, err := head.Encode(api.Head{Gen: 3, Chunk: 2, Cap: 2, Invalid: true})
	if err != api.OK {
		t.Fatal(err)
	}
	for _, state := range []api.State{api.Used, api.Merging} {
		slots := []api.Slot{used(25, 4, 1), {State: state, Store: api.Extent{Start: 40, Len: 6}, Gen: 3}}
		d := x.stored(t, slots...)
		setSector(t, d, 40, invalid)
		setSector(t, d, 41, sectorOf("junk"))
		if state == api.Merging {
			checkCorrupt(t, "an invalid store that is Merging", d)
			continue
		}
		p := x.plainOf(d, slots...)
		p.snaps[1].invalid = true
		b := &bench{plain: p, disk: d, engine: mustOpen(t, d)}
		b.check(t)
	}
}

// What is pending is read, too, and Open leaves it so.
func TestOpenWithPendingWrites(t *testing.T) {
	x := even()
	b := x.bench(t, creating(2))
	data, _ := slot.Encode(free(9))
	b.disk.Write(firstSlot, data)
	before := b.disk.Clone()
	e := mustOpen(t, b.disk)
	if len(e.IDs()) != 0 || e.Free() != 35 {
		t.Errorf("IDs %v, %d free", e.IDs(), e.Free())
	}
	checkDisks(t, b.disk, before)
}

// Open needs no power, and neither does all that only tells.
func TestOpenAndReadNeedNoPower(t *testing.T) {
	x := cut()
	b := x.bench(t, x.filling(0, "a"), creating(2), creating(1), writing(0, 1, sectorOf("b")), writing(1, 6, sectorOf("c")))
	b.disk.Fail(0)
	checkEngine(t, mustOpen(t, b.disk), b.plain)
	checkEngine(t, b.engine, b.plain)
	if b.disk.Dead() {
		t.Error("something is done on the disk")
	}
}

// The greatest disk: its stores go up to its last sector.
func TestTheGreatestDisk(t *testing.T) {
	d := disk.New(diskEnd)
	s := api.Super{Sectors: diskEnd, Origin: 1 << 18, Chunk: 128}
	if err := Format(d, s); err != api.OK {
		t.Fatal(err)
	}
	e := mustOpen(t, d)
	behind := diskEnd - 17 - 1<<18
	if e.Super() != s || e.Free() != behind {
		t.Errorf("%v, %d free", e.Super(), e.Free())
	}
	// 6135 chunks have 472 pages: all in all 785753 sectors, and 662 are left, as many as five chunks, a page and a head have.
	for _, c := range []struct{ chunks, id, size int }{{6135, 1, 785753}, {5, 2, 642}} {
		if id, err := e.Create(c.chunks); id != c.id || err != api.OK {
			t.Fatalf("Create(%d) = %d, %d", c.chunks, id, err)
		}
		behind -= c.size
		if e.Free() != behind {
			t.Errorf("%d free, want %d", e.Free(), behind)
		}
	}
	all := strings.Repeat("the origin's sectors are as many as these letters fill; ", 1<<18*64/56+1)[:1<<18*64]
	if err := e.Write(0, 0, all); err != api.OK {
		t.Fatal(err)
	}
	e = mustOpen(t, d)
	if got, err := e.Read(0, 0, 1<<18); got != all || err != api.OK {
		t.Errorf("other bytes are read of the origin, %d", err)
	}
	if got, err := e.Read(1, 0, 1<<18); got != strings.Repeat("\x00", 1<<18*64) || err != api.OK {
		t.Errorf("other bytes are read of the snapshot, %d", err)
	}
	if !e.Store(2).Invalid() || e.Store(1).Left() != 6135-2048 {
		t.Errorf("invalid %t, %d left", e.Store(2).Invalid(), e.Store(1).Left())
	}
}
