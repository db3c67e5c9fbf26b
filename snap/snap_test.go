package snap

import (
	"math"
	"slices"
	"strings"
	"testing"

	"oakum/api"
	"oakum/disk"
	"oakum/origin"
)

// P16.1, V2: what an engine tells of itself.

func TestOfNoSnapshots(t *testing.T) {
	for _, x := range append(sites(), site{25, 8, 2}) {
		b := x.bench(t)
		b.check(t)
		for _, id := range edges() {
			if s, err := b.engine.Slot(id); s != (api.Slot{}) || err != api.ErrNone {
				t.Errorf("Slot(%d) = %v, %d", id, s, err)
			}
			if b.engine.Store(id) != nil {
				t.Errorf("Store(%d) is not nil", id)
			}
		}
	}
}

// With every state of each of three snapshots.
func TestOfSnapshots(t *testing.T) {
	x := even()
	for _, states := range [][]api.State{
		{api.Used, api.Used, api.Used}, {api.Free, api.Used, api.Used}, {api.Used, api.Free, api.Used}, {api.Used, api.Used, api.Free},
		{api.Merging, api.Used, api.Used}, {api.Used, api.Merging, api.Used}, {api.Used, api.Used, api.Merging}, {api.Free, api.Merging, api.Free}, {api.Free, api.Free, api.Merging}, {api.Free, api.Free, api.Free},
	} {
		b := x.bench(t, x.filling(0, "a"), creating(1), creating(2), creating(3), writing(2, 3, sectorOf("b")))
		for i, s := range states {
			b.mustDo(t, marking(i+1, s))
		}
		b.check(t)
		for _, id := range edges() {
			checkSnapshot(t, b.engine, b.plain, id)
		}
	}
}

// Stores and the origin are told themselves: what is done to them is the engine's.
func TestStoreAndOriginAreThemselves(t *testing.T) {
	x := even()
	b := x.bench(t, x.filling(0, "a"), creating(2), writing(1, 0, sectorOf("b")))
	s, o := b.engine.Store(1), b.engine.Origin()
	if s == nil || s != b.engine.Store(1) || o == nil || o != b.engine.Origin() {
		t.Fatal("stores or the origin are others")
	}
	if err := s.Remove(0); err != api.OK {
		t.Fatal(err)
	}
	if got, err := b.engine.Read(1, 0, 1); got != sectorOf("a", 0) || err != api.OK {
		t.Errorf("Read = %q, %d", got, err)
	}
	if err := o.Put(3, sectorsOf("c", 2)); err != api.OK {
		t.Fatal(err)
	}
	if got, err := b.engine.Read(0, 6, 2); got != sectorsOf("c", 2) || err != api.OK {
		t.Errorf("Read = %q, %d", got, err)
	}
	if s.Spoil() != api.OK {
		t.Fatal("it is not spoiled")
	}
	if _, err := b.engine.Read(1, 0, 1); err != api.ErrInvalid {
		t.Errorf("Read = %d, want ErrInvalid", err)
	}
}

// What is told is new memory.
func TestIDsAreNewMemory(t *testing.T) {
	b := even().bench(t, creating(1), creating(1))
	b.engine.IDs()[0] = 7
	b.check(t)
}

// P16.1, V3: Create.

func TestCreateAllSixteen(t *testing.T) {
	for _, x := range []site{even(), single()} {
		b := x.bench(t)
		for range 16 {
			if b.engine.Free() >= x.size(1) {
				b.do(t, creating(1))
			}
		}
	}
	x := site{17 + 4 + 16*3, 4, 1} // as many sectors as sixteen stores have
	b := x.bench(t)
	for range 15 {
		b.do(t, creating(1))
	}
	b.do(t, creating(1))
	if b.engine.Free() != 0 || !slices.Equal(b.engine.IDs(), []int{1, 2, 3, 4, 5, 6, 7, 8, 9, 10, 11, 12, 13, 14, 15, 16}) {
		t.Errorf("%v, %d free", b.engine.IDs(), b.engine.Free())
	}
	b.refuse(t, creating(1), api.ErrFull)
	for _, id := range []int{16, 3, 9, 1} {
		b.do(t, deleting(id))
	}
	for range 4 {
		b.do(t, creating(1))
	}
	b.refuse(t, creating(1), api.ErrFull)
}

// The first slot that is Free, and the first gap, are not of the same snapshot.
func TestCreateTakesTheFirstOfBoth(t *testing.T) {
	x := even()
	b := x.bench(t, creating(2), creating(1), creating(3), creating(2))
	b.do(t, deleting(3))
	b.do(t, deleting(1))
	b.do(t, creating(3)) // ID 1, in the third one's room
	b.do(t, creating(1)) // ID 3, in the first one's room
	if one, _ := b.engine.Slot(1); one != used(35, 8, 5) {
		t.Errorf("Slot(1) = %v", one)
	}
	if three, _ := b.engine.Slot(3); three != used(25, 4, 6) {
		t.Errorf("Slot(3) = %v", three)
	}
}

// Of even's 35 sectors a store with room for 16 chunks has all: one, two pages, and 32; one for 17 has two more.
func TestCreateThatJustFits(t *testing.T) {
	x := even()
	for n := 1; n <= 16; n++ {
		b := x.bench(t)
		b.do(t, creating(n))
		if b.engine.Free() != 35-x.size(n) {
			t.Errorf("%d free behind Create(%d)", b.engine.Free(), n)
		}
	}
	b := x.bench(t)
	b.refuse(t, creating(17), api.ErrSpace)
	b.do(t, creating(16))
	b.refuse(t, creating(1), api.ErrSpace)
	b = x.bench(t)
	b.do(t, creating(5))                   // 25 to 36
	b.do(t, creating(1))                   // 37 to 40
	b.refuse(t, creating(9), api.ErrSpace) // 20 sectors; 19 are left
	b.do(t, deleting(1))                   // 12 and 19 sectors are free, none of them beside the other
	b.refuse(t, creating(9), api.ErrSpace)
	b.do(t, creating(8)) // 18
	b.do(t, creating(5)) // 12
	b.refuse(t, creating(1), api.ErrSpace)
}

func TestCreateOfNumbersThatMayNotBe(t *testing.T) {
	x := even()
	b := x.bench(t, creating(1))
	for _, n := range edges() {
		switch {
		case n < 1 || n > diskEnd:
			b.refuse(t, creating(n), api.ErrRange)
		case n > 15:
			b.refuse(t, creating(n), api.ErrSpace)
		}
	}
	none := site{25, 8, 2}.bench(t)
	none.refuse(t, creating(1), api.ErrSpace)
	none.refuse(t, creating(0), api.ErrRange)
}

func TestCreateGenerations(t *testing.T) {
	x := even()
	for _, slots := range [][]api.Slot{
		{used(25, 4, greatestGen-1)},
		{free(greatestGen - 1)},
		{used(25, 4, 3), free(7), used(29, 4, 5)},
		{free(1), used(25, 4, 9), free(8), free(0)},
		append(make([]api.Slot, 15), free(greatestGen-1)),
		append(make([]api.Slot, 15), used(25, 4, 11)),
	} {
		d := x.stored(t, slots...)
		b := &bench{plain: x.plainOf(d, slots...), disk: d, engine: mustOpen(t, d)}
		b.do(t, creating(2))
	}
	for _, slots := range [][]api.Slot{
		{used(25, 4, greatestGen)},
		{free(greatestGen)},
		{used(25, 4, 1), free(greatestGen), used(29, 4, 2)},
		append(make([]api.Slot, 15), free(greatestGen)),
		append(make([]api.Slot, 15), used(25, 4, greatestGen)),
	} {
		d := x.stored(t, slots...)
		b := &bench{plain: x.plainOf(d, slots...), disk: d, engine: mustOpen(t, d)}
		b.refuse(t, creating(1), api.ErrRange)
	}
}

// No generation of a store comes again, also of one that is no more.
func TestCreateNeverTakesAGenerationAgain(t *testing.T) {
	b := even().bench(t)
	for gen := range uint32(6) {
		b.do(t, creating(1))
		if s, err := b.engine.Slot(1); s.Gen != gen+1 || err != api.OK {
			t.Errorf("Slot(1) = %v, %d", s, err)
		}
		b.do(t, deleting(1))
	}
	b.do(t, creating(1)) // 7
	b.do(t, creating(1)) // 8
	b.do(t, deleting(2))
	b.engine = mustOpen(t, b.disk)
	b.do(t, creating(1))
	b.do(t, deleting(1))
	b.do(t, deleting(2))
	b.do(t, creating(1))
	if s, err := b.engine.Slot(1); s.Gen != 10 || err != api.OK {
		t.Errorf("Slot(1) = %v, %d", s, err)
	}
}

// Several wrong things at once: each error is told ahead of those behind it.
func TestCreateTellsTheFirstError(t *testing.T) {
	x := site{17 + 4 + 16*3, 4, 1}
	full := make([]api.Slot, slotCount)
	for i := range full {
		full[i] = used(21+3*i, 3, greatestGen-uint32(i))
	}
	for _, c := range []struct {
		busy, full, greatest bool
		chunks               int
		want                 api.Errno
	}{
		{true, true, true, 0, api.ErrBusy}, {true, true, true, 40, api.ErrBusy}, {true, false, false, 1, api.ErrBusy}, {true, false, true, 0, api.ErrBusy},
		{false, true, true, 0, api.ErrFull}, {false, true, true, 40, api.ErrFull}, {false, true, true, 1, api.ErrFull}, {false, true, true, diskEnd + 1, api.ErrFull},
		{false, false, true, 0, api.ErrRange}, {false, false, true, diskEnd + 1, api.ErrRange}, {false, false, true, diskEnd, api.ErrSpace}, {false, false, true, 2, api.ErrSpace}, {false, false, true, 1, api.ErrRange},
		{false, false, false, 2, api.ErrSpace}, {false, false, false, 0, api.ErrRange},
	} {
		slots := slices.Clone(full)
		if !c.full {
			slots[7] = free(4)
		}
		if !c.greatest {
			slots[0].Gen = 1
		}
		if c.busy {
			slots[12].State = api.Merging
		}
		d := x.stored(t, slots...)
		b := &bench{plain: x.plainOf(d, slots...), disk: d, engine: mustOpen(t, d)}
		b.refuse(t, creating(c.chunks), c.want)
	}
}

// P16.1, V3: Mark.

// marked is one with four snapshots: the second and the third one have exceptions, the fourth one is invalid.
func marked(t testing.TB) *bench {
	x := even()
	return x.bench(t, x.filling(0, "a"), creating(2), creating(3), creating(3), creating(1), writing(2, 3, sectorOf("b")), writing(3, 0, sectorsOf("c", 4)), writing(4, 0, sectorOf("d")), writing(0, 7, sectorOf("e")))
}

func TestMarkEachStateOfEachState(t *testing.T) {
	states := []api.State{api.Free, api.Used, api.Merging}
	for id := 1; id <= 4; id++ {
		for _, from := range states[1:] {
			for _, to := range states {
				b := marked(t)
				b.do(t, marking(id, from))
				b.do(t, marking(id, to))
			}
		}
	}
	if b := marked(t); !b.engine.Store(4).Invalid() || b.engine.Store(3).Invalid() {
		t.Error("the fourth snapshot is to be invalid, and the third one not")
	}
}

func TestMarkOfNone(t *testing.T) {
	for _, b := range []*bench{even().bench(t), marked(t)} {
		for _, id := range append(edges(), slotCount) {
			if b.snap(id) == nil {
				for _, s := range []api.State{api.Free, api.Used, api.Merging, -1, 3} {
					b.refuse(t, marking(id, s), api.ErrNone)
				}
			}
		}
	}
}

func TestMarkOfNoState(t *testing.T) {
	b := marked(t)
	for _, merging := range []int{0, 1, 2} {
		if merging > 0 {
			b.mustDo(t, marking(1, api.Used))
			b.mustDo(t, marking(merging, api.Merging))
		}
		for _, n := range append(edges(), 256, 257, 258, 1<<32+2) {
			if n < 0 || n > 2 {
				b.refuse(t, marking(1, api.State(n)), api.ErrArg)
			}
		}
	}
}

func TestMarkWhileAnotherIsMerging(t *testing.T) {
	for merging := 1; merging <= 3; merging++ {
		for id := 1; id <= 4; id++ {
			b := marked(t)
			b.do(t, marking(merging, api.Merging))
			if id != merging {
				b.refuse(t, marking(id, api.Merging), api.ErrBusy)
				b.refuse(t, marking(id, 3), api.ErrArg)
			}
			b.do(t, marking(id, api.Used))
			if id != merging {
				b.do(t, marking(id, api.Free))
				b.refuse(t, marking(id, api.Merging), api.ErrNone)
			}
			b.do(t, marking(merging, api.Merging))
			b.do(t, marking(merging, api.Free))
		}
	}
}

// P16.1, V3: Delete.

func TestDelete(t *testing.T) {
	for _, ids := range [][]int{{1, 2, 3, 4}, {4, 3, 2, 1}, {2, 4, 1, 3}} {
		b := marked(t)
		for _, id := range ids {
			b.do(t, deleting(id))
			b.refuse(t, deleting(id), api.ErrNone)
		}
		if b.engine.Free() != 35 {
			t.Errorf("%d free", b.engine.Free())
		}
		b.do(t, creating(16))
	}
}

func TestDeleteWhatMayNotBe(t *testing.T) {
	b := marked(t)
	for _, id := range append(edges(), slotCount) {
		if b.snap(id) == nil {
			b.refuse(t, deleting(id), api.ErrNone)
		}
	}
	b.do(t, marking(2, api.Merging))
	b.refuse(t, deleting(2), api.ErrBusy)
	b.do(t, deleting(1))
	b.do(t, deleting(4))
	b.do(t, deleting(3))
	b.refuse(t, deleting(2), api.ErrBusy)
	b.refuse(t, deleting(3), api.ErrNone)
}

// P16.1, V3: Save.

func TestSave(t *testing.T) {
	for _, x := range sites() {
		b := x.bench(t, x.filling(0, "a"))
		for c := range x.chunks() {
			b.do(t, saving(c)) // of no snapshot
		}
		b.mustDo(t, creating(min(2, x.chunks())))
		b.mustDo(t, creating(1))
		for range 2 { // of one that is saved, or invalid, nothing is done
			for c := x.chunks() - 1; c >= 0; c-- {
				b.do(t, saving(c))
			}
		}
		b.do(t, deleting(1))
		for c := range x.chunks() {
			b.do(t, saving(c))
		}
	}
}

func TestSaveOfChunksThatAreNotThere(t *testing.T) {
	for _, x := range sites() {
		b := x.bench(t, creating(1))
		for _, c := range append(edges(), x.chunks(), x.chunks()-1, x.origin, x.origin-1) {
			if c < 0 || c >= x.chunks() {
				b.refuse(t, saving(c), api.ErrRange)
			}
		}
	}
}

// Of all kinds at once: without a place, with one, with the exception, invalid, Merging, and with a place.
func TestSaveOfEachKind(t *testing.T) {
	x := single()
	b := x.bench(t, x.filling(0, "a"), creating(1), creating(3), creating(2), creating(1), creating(4), creating(14))
	b.mustDo(t, writing(1, 5, sectorOf("full")))
	b.mustDo(t, writing(3, 8, sectorOf("has")))
	b.mustDo(t, writing(4, 1, sectorOf("one")))
	if _, err := b.engine.Read(4, 0, 1); err != api.OK {
		t.Fatal(err)
	}
	b.do(t, writing(4, 2, sectorOf("too many")))
	b.mustDo(t, writing(5, 3, sectorOf("merging")))
	b.mustDo(t, marking(5, api.Merging))
	b.do(t, saving(8))
	b.do(t, saving(3))
	b.do(t, saving(19))
	for c := range x.chunks() {
		b.do(t, saving(c))
	}
	if !b.engine.Store(1).Invalid() || !b.engine.Store(6).Invalid() || len(b.engine.Store(5).All()) != 1 {
		t.Errorf("snapshots 1 and 6 are to be invalid, 5 is to have one exception")
	}
}

// P16.1, V4: Read.

func TestReadOfEachPlace(t *testing.T) {
	for _, x := range sites() {
		b := x.bench(t, x.filling(0, "a"), creating(2), creating(min(4, x.chunks())))
		b.mustDo(t, writing(0, x.origin-1, sectorOf("b")))
		b.mustDo(t, writing(2, 0, sectorOf("c")))
		for _, state := range []api.State{api.Used, api.Merging} {
			b.mustDo(t, marking(1, state))
			for id := range 3 {
				for at := -2; at <= x.origin+2; at++ {
					for n := -2; n <= x.origin+2; n++ {
						checkRead(t, b.engine, b.plain, id, at, n)
					}
				}
			}
		}
	}
}

func TestReadOfNoPlace(t *testing.T) {
	for _, b := range []*bench{marked(t), cut().bench(t, creating(4))} {
		for _, id := range append(edges(), slotCount) {
			for _, at := range edges() {
				for _, n := range edges() {
					want, wantErr := b.read(id, at, n)
					if s, err := b.engine.Read(id, at, n); s != want || err != wantErr {
						t.Errorf("Read(%d, %d, %d) = %q, %d, want %q, %d", id, at, n, s, err, want, wantErr)
					}
				}
			}
		}
	}
}

// checkRefused holds what Read and Write tell of a snapshot, with wrong and right sectors, and data, also on a dead disk.
func checkRefused(t *testing.T, b *bench, id int, want api.Errno) {
	t.Helper()
	dead := b.disk.Clone()
	engines := []*Engine{b.engine}
	if b.opens() {
		engines = append(engines, mustOpen(t, dead))
		die(dead)
	}
	for _, e := range engines {
		for _, at := range []int{0, b.origin - 1, b.origin, -1, math.MaxInt} {
			for _, n := range []int{0, 1, -1, math.MaxInt} {
				if s, err := e.Read(id, at, n); s != "" || err != want {
					t.Errorf("Read(%d, %d, %d) = %q, %d, want %d", id, at, n, s, err, want)
				}
			}
		}
	}
	for _, at := range []int{0, b.origin - 1, b.origin, -1, math.MaxInt} {
		for _, size := range []int{0, 1, sectorSize, sectorSize + 1, 100 * sectorSize} {
			b.refuse(t, writing(id, at, strings.Repeat("x", size)), want)
		}
	}
}

func TestReadAndWriteTellTheFirstError(t *testing.T) {
	b := marked(t)
	for _, id := range []int{math.MinInt, -1, 5, 16, 17, math.MaxInt} {
		checkRefused(t, b, id, api.ErrNone)
	}
	checkRefused(t, b, 4, api.ErrInvalid)
	b.mustDo(t, marking(3, api.Merging))
	checkRefused(t, b, 3, api.ErrBusy)
	checkRefused(t, b, 4, api.ErrInvalid)
	b.mustDo(t, marking(3, api.Free))
	checkRefused(t, b, 3, api.ErrNone)
	b.mustDo(t, marking(4, api.Merging)) // invalid, and Merging
	checkRefused(t, b, 4, api.ErrBusy)
}

func TestReadOfADeadDisk(t *testing.T) {
	b := marked(t)
	die(b.disk)
	for id := range 4 {
		for _, at := range []int{0, 3, 7} {
			if s, err := b.engine.Read(id, at, 1); s != "" || err != api.ErrCrash {
				t.Errorf("Read(%d, %d, 1) = %q, %d, want ErrCrash", id, at, s, err)
			}
		}
		if s, err := b.engine.Read(id, 7, 2); s != "" || err != api.ErrRange {
			t.Errorf("Read(%d, 7, 2) = %q, %d, want ErrRange", id, s, err)
		}
	}
	for _, c := range []call{creating(1), marking(1, api.Used), marking(1, api.Merging), deleting(4), saving(0), writing(0, 0, sectorOf("x")), writing(1, 0, sectorOf("x")), writing(3, 0, sectorOf("x")), writing(0, 0, "")} {
		if id, err := c.on(b.engine); id != 0 || err != api.ErrCrash {
			t.Errorf("%v = %d, %d, want ErrCrash", c, id, err)
		}
	}
}

// P16.1, V4: Write of the origin.

// Each place, with snapshots that have room for all, for one chunk, and for the chunks from the second one on.
func TestWriteOfTheOriginOfEachPlace(t *testing.T) {
	for _, x := range []site{{60, 4, 2}, {60, 5, 3}, {40, 3, 1}, only()} {
		for at := -1; at <= x.origin+1; at++ {
			for n := range x.origin + 2 {
				b := x.bench(t, x.filling(0, "a"), creating(x.chunks()), creating(1))
				b.mustDo(t, writing(1, 0, sectorOf("b")))
				b.do(t, writing(0, at, sectorsOf("c", n)))
				b.do(t, writing(0, at, sectorsOf("d", n)))
			}
		}
	}
}

func TestWriteOfNothing(t *testing.T) {
	x := cut()
	b := x.bench(t, x.filling(0, "a"), creating(1))
	for _, id := range []int{0, 1} {
		for at := -1; at <= x.origin+1; at++ {
			b.do(t, writing(id, at, ""))
		}
	}
	b.disk.Write(x.sectors, sectorOf("pending")) // behind the layout
	b.do(t, writing(0, 0, ""))
	if b.disk.Pending() != 0 {
		t.Error("a write of nothing is to flush")
	}
}

func TestWriteOfNoWholeSectors(t *testing.T) {
	b := cut().bench(t, creating(4))
	for _, id := range []int{0, 1} {
		for _, size := range []int{1, 2, 63, 65, 127, 7*64 - 1, 7*64 + 1, 8*64 + 1, 70*64 + 5} {
			for _, at := range []int{0, 6, 7, 8, -1, math.MinInt, math.MaxInt} {
				b.refuse(t, writing(id, at, strings.Repeat("x", size)), api.ErrArg)
			}
		}
		for _, at := range edges() {
			if at < 0 || at > 6 {
				b.refuse(t, writing(id, at, sectorOf("x")), api.ErrRange)
			}
			if at < 0 || at > 7 {
				b.refuse(t, writing(id, at, ""), api.ErrRange)
			}
			if at != 0 {
				b.refuse(t, writing(id, at, sectorsOf("x", 7)), api.ErrRange)
			}
		}
		b.refuse(t, writing(id, 0, sectorsOf("x", 8)), api.ErrRange)
	}
}

// Example 6 of the whole: two Adds, each with two flushes, then the sectors, then a flush.
func TestExampleOfTwoAdds(t *testing.T) {
	x := even()
	b := x.bench(t, x.filling(0, "a"), creating(2), creating(2))
	p := b.plain.clone()
	one, two := p.snap(1), p.snap(2)
	old := sectorOf("a", 2) + sectorOf("a", 3)
	want := append(written(27, old), flush)
	one.places[0] = 1
	want = append(want, p.pageThing(one, 0), flush)
	want = append(want, written(33, old)...)
	two.places[0] = 1
	want = append(want, flush, p.pageThing(two, 0), flush)
	want = append(want, thing{20, sectorOf("b")}, flush)
	write := func(d *disk.Disk, fuse int) api.Errno {
		e := mustOpen(t, d)
		d.Fail(fuse)
		return e.Write(0, 3, sectorOf("b"))
	}
	checkThings(t, b.disk, write, want, api.OK)
}

// Example 7 of the whole: a snapshot with room for one chunk is invalid behind a write of a second one.
func TestExampleOfTheSecondChunk(t *testing.T) {
	x := even()
	b := x.bench(t, x.filling(0, "a"), creating(1))
	b.do(t, writing(0, 0, sectorOf("b")))
	b.do(t, writing(0, 1, sectorOf("c")))
	if s, err := b.engine.Read(1, 0, 2); s != sectorsOf("a", 2) || err != api.OK {
		t.Errorf("Read = %q, %d", s, err)
	}
	b.do(t, writing(0, 2, sectorOf("d")))
	if _, err := b.engine.Read(1, 0, 2); err != api.ErrInvalid || !b.engine.Store(1).Invalid() {
		t.Errorf("Read = %d, want ErrInvalid", err)
	}
	b.do(t, writing(0, 4, sectorOf("e")))
}

// A write that needs a place for several snapshots, some of which have none left: the others get it.
func TestWriteOfTheOriginWithoutPlaces(t *testing.T) {
	x := single()
	b := x.bench(t, x.filling(0, "a"), creating(3), creating(1), creating(2), creating(1), creating(5))
	b.do(t, writing(0, 4, sectorOf("b")))
	b.do(t, writing(0, 5, sectorsOf("c", 2))) // 2 and 4 get invalid, then 3
	if ids := validIDs(b.engine); !slices.Equal(ids, []int{1, 5}) {
		t.Errorf("%v are valid", ids)
	}
	b.do(t, writing(0, 4, sectorsOf("d", 3)))
	b.do(t, writing(0, 0, sectorsOf("e", 2)))
	if ids := validIDs(b.engine); !slices.Equal(ids, []int{5}) {
		t.Errorf("%v are valid", ids)
	}
	b.do(t, creating(1))
	b.do(t, writing(0, 0, sectorsOf("f", 20)))
	if ids := validIDs(b.engine); len(ids) != 0 {
		t.Errorf("%v are valid", ids)
	}
}

func validIDs(e *Engine) []int {
	return slices.DeleteFunc(e.IDs(), func(id int) bool { return e.Store(id).Invalid() })
}

// P16.1, V4: Write of a snapshot.

func TestWriteOfASnapshotOfEachPlace(t *testing.T) {
	for _, x := range []site{{60, 4, 2}, {60, 5, 3}, {40, 3, 1}, only()} {
		for at := -1; at <= x.origin+1; at++ {
			for n := range x.origin + 2 {
				for _, room := range []int{1, x.chunks()} {
					b := x.bench(t, x.filling(0, "a"), creating(room), creating(1))
					b.do(t, writing(1, at, sectorsOf("b", n)))
					if b.plain.refuses(1) == api.OK {
						b.do(t, writing(1, at, sectorsOf("c", n)))
					}
				}
			}
		}
	}
}

// A write over two chunks, for whose second one there is no place: that is ErrInvalid, and the chunks behind it are not written.
func TestWriteOfASnapshotWithoutPlaces(t *testing.T) {
	x := even()
	for _, c := range []struct {
		room, at, n int
		want        api.Errno
	}{
		{1, 1, 2, api.ErrInvalid}, {1, 0, 8, api.ErrInvalid}, {2, 3, 4, api.ErrInvalid}, {3, 0, 8, api.ErrInvalid}, {3, 1, 6, api.ErrInvalid},
		{1, 2, 2, api.OK}, {2, 3, 2, api.OK}, {3, 2, 6, api.OK}, {4, 0, 8, api.OK},
	} {
		b := x.bench(t, x.filling(0, "a"), creating(2), creating(c.room), creating(1))
		if _, _, err := writing(2, c.at, sectorsOf("b", c.n)).onPlain(b.plain.clone()); err != c.want {
			t.Fatalf("%v of a plain one = %d", c, err)
		}
		b.do(t, writing(2, c.at, sectorsOf("b", c.n)))
		if c.want == api.OK {
			continue
		}
		b.refuse(t, writing(2, 0, sectorOf("c")), api.ErrInvalid)
		if b.engine.Store(1).Invalid() || b.engine.Store(3).Invalid() || b.disk.Pending() != 0 {
			t.Error("other snapshots are invalid, too, or writes are pending")
		}
	}
}

// What one snapshot is written neither the origin reads nor another snapshot.
func TestWriteOfASnapshotIsItsOwn(t *testing.T) {
	for _, x := range []site{even(), cut(), only()} {
		b := x.bench(t, x.filling(0, "a"), creating(x.chunks()), creating(x.chunks()))
		b.do(t, x.filling(1, "b"))
		b.do(t, x.filling(0, "c"))
		b.do(t, writing(2, x.origin-1, sectorOf("d")))
		for id, want := range map[int]string{0: sectorsOf("c", x.origin), 1: sectorsOf("b", x.origin), 2: sectorsOf("a", x.origin-1) + sectorOf("d")} {
			if s, err := b.engine.Read(id, 0, x.origin); s != want || err != api.OK {
				t.Errorf("Read(%d) of %v = %q, %d", id, x, s, err)
			}
		}
	}
}

// P16.1: a snapshot that is Merging, as Mark makes it.

// While one is Merging, the origin reads, and is written, what that one has; the others read the sectors that stand there.
func TestWriteOfTheOriginWhileMerging(t *testing.T) {
	for _, x := range []site{even(), cut(), single(), wide(), only()} {
		for at := range x.origin {
			for _, n := range []int{1, 2, 3, x.origin - at} {
				if at+n > x.origin {
					continue
				}
				b := x.bench(t, x.filling(0, "a"), creating(2), creating(min(2, x.chunks())), creating(1))
				b.mustDo(t, writing(2, x.origin-1, sectorOf("b")))
				b.mustDo(t, writing(3, x.origin-1, sectorOf("c")))
				b.mustDo(t, marking(2, api.Merging))
				b.do(t, writing(0, at, sectorsOf("d", n)))
				b.do(t, writing(0, at, sectorsOf("e", n)))
			}
		}
	}
}

func TestOthersWhileMerging(t *testing.T) {
	x := even()
	b := x.bench(t, x.filling(0, "a"), creating(4), creating(4), writing(1, 1, sectorsOf("b", 2)))
	b.do(t, marking(1, api.Merging))
	b.do(t, writing(2, 0, sectorOf("c")))
	if s, err := b.engine.Read(2, 0, 4); s != sectorOf("c")+sectorOf("a", 1)+sectorOf("a", 2)+sectorOf("a", 3) || err != api.OK {
		t.Errorf("Read(2) = %q, %d", s, err)
	}
	b.do(t, writing(0, 0, sectorsOf("d", 3)))
	if s, err := b.engine.Read(0, 0, 4); s != sectorsOf("d", 3)+sectorOf("a", 3) || err != api.OK {
		t.Errorf("Read(0) = %q, %d", s, err)
	}
	if s, err := b.engine.Read(2, 1, 3); s != sectorOf("a", 1)+sectorOf("a", 2)+sectorOf("a", 3) || err != api.OK {
		t.Errorf("Read(2) = %q, %d", s, err)
	}
	b.do(t, writing(0, 5, sectorOf("e"))) // of no exception: the second snapshot gets one, the first one does not
	if len(b.engine.Store(1).All()) != 2 || len(b.engine.Store(2).All()) != 2 {
		t.Errorf("%v and %v", b.engine.Store(1).All(), b.engine.Store(2).All())
	}
	b.do(t, saving(3))
	b.refuse(t, creating(1), api.ErrBusy)
	b.refuse(t, deleting(1), api.ErrBusy)
	b.do(t, deleting(2))
	b.do(t, marking(1, api.Free))
	b.do(t, creating(4))
	if s, err := b.engine.Read(1, 0, 3); s != sectorsOf("a", 3) || err != api.OK {
		t.Errorf("Read(1) = %q, %d", s, err)
	}
}

// Mark does not ask whether a snapshot is invalid: one that is Merging then has no exceptions, and the disk can't be opened.
func TestMarkOfAnInvalidSnapshotWithMerging(t *testing.T) {
	b := marked(t)
	b.do(t, marking(4, api.Merging))
	if b.opens() {
		t.Fatal("the disk is not to be opened")
	}
	b.do(t, writing(0, 0, sectorsOf("x", 8)))
	b.do(t, saving(1))
	b.refuse(t, creating(1), api.ErrBusy)
	b.do(t, marking(4, api.Used))
	b.do(t, writing(0, 0, sectorsOf("y", 8)))
}

// P1, rule 8: a nil engine, and the ways.

func TestNilEngine(t *testing.T) {
	var e *Engine
	if e.Super() != (api.Super{}) || len(e.IDs()) != 0 || e.Origin() != nil || e.Merging() != 0 || e.Free() != 0 {
		t.Error("a nil engine tells something")
	}
	for _, a := range edges() {
		if s, err := e.Slot(a); s != (api.Slot{}) || err != api.ErrArg {
			t.Errorf("Slot(%d) = %v, %d", a, s, err)
		}
		if e.Store(a) != nil {
			t.Errorf("Store(%d) is not nil", a)
		}
		for _, c := range []call{creating(a), deleting(a), saving(a), marking(a, api.Used), marking(1, api.State(a)), writing(a, 0, sectorOf("x")), writing(0, a, sectorOf("x")), writing(0, a, ""), writing(a, a, "x")} {
			if id, err := c.on(e); id != 0 || err != api.ErrArg {
				t.Errorf("%v = %d, %d, want ErrArg", c, id, err)
			}
		}
		for _, b := range edges() {
			if s, err := e.Read(a, b, 1); s != "" || err != api.ErrArg {
				t.Errorf("Read(%d, %d, 1) = %q, %d", a, b, s, err)
			}
			if s, err := e.Read(0, a, b); s != "" || err != api.ErrArg {
				t.Errorf("Read(0, %d, %d) = %q, %d", a, b, s, err)
			}
		}
	}
}

// An engine embeds its layout: where everything stands it tells, too.
func TestEngineHasItsLayout(t *testing.T) {
	x := even()
	e := x.bench(t).engine
	if e.Stores() != x.stores() || e.Geom().Chunk != 2 || e.Layout.Origin() != (api.Extent{Start: 17, Len: 8}) {
		t.Errorf("%v, %v, %v", e.Stores(), e.Geom(), e.Layout.Origin())
	}
	var o *origin.Origin = e.Origin()
	if o.Sectors() != x.sectors+3 {
		t.Errorf("the origin's disk has %d sectors", o.Sectors())
	}
}
