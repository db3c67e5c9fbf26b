package status

import (
	"testing"

	"oakum/api"
	"oakum/disk"
	"oakum/merge"
	"oakum/snap"
	"oakum/store"
)

// P22.1, S1: what is told of an engine.

func TestNilEngine(t *testing.T) {
	s, err := Of(nil)
	if err != api.ErrArg {
		t.Errorf("Of(nil) = %d", err)
	}
	checkNothing(t, s)
}

// Without a snapshot all sectors behind the origin are free, also if there are none.
func TestWithoutSnapshots(t *testing.T) {
	for _, x := range append(sites(), site{firstOrigin + 9, 9, 2}, site{firstOrigin + 10, 9, 128}, site{diskEnd, 1, 1}, site{diskEnd, diskEnd - firstOrigin, 128}) {
		x.bench(t).checkTells(t, x.sectors-firstOrigin-x.origin, 0)
	}
}

func TestOneSnapshot(t *testing.T) {
	x := even() // 95 sectors are behind the origin
	b := x.bench(t, creating(3))
	b.checkTells(t, 87, 0, Line{ID: 1, Room: 3, Left: 3})
	b.mustDo(t, x.touching(0, 2))
	b.checkTells(t, 87, 0, Line{ID: 1, Room: 3, Used: 1, Left: 2, Share: 33})
	b.mustDo(t, x.touching(0, 2), x.touching(1, 2))
	b.checkTells(t, 87, 0, Line{ID: 1, Room: 3, Used: 1, Left: 2, Share: 33})
	b.mustDo(t, x.touching(1, 0))
	b.checkTells(t, 87, 0, Line{ID: 1, Room: 3, Used: 2, Left: 1, Share: 66})
	b.mustDo(t, x.touching(0, 3))
	b.checkTells(t, 87, 0, Line{ID: 1, Room: 3, Used: 3, Share: 100})
	b.mustDo(t, x.touching(0, 1))
	b.checkTells(t, 87, 0, Line{ID: 1, Invalid: true, Room: 3})
	b.mustDo(t, x.touching(0, 1), x.touching(0, 2))
	b.checkTells(t, 87, 0, Line{ID: 1, Invalid: true, Room: 3})
	b.mustDo(t, deleting(1))
	b.checkTells(t, 95, 0)
}

// A snapshot that is written itself gets invalid, too.
func TestInvalidByItsOwnWrite(t *testing.T) {
	x := cut()
	b := x.bench(t, creating(1), x.touching(1, 3))
	b.checkTells(t, 92, 0, Line{ID: 1, Room: 1, Used: 1, Share: 100})
	if err := b.do(x.touching(1, 0)); err != api.ErrInvalid {
		t.Fatalf("a write without a place left tells %d", err)
	}
	b.checkTells(t, 92, 0, Line{ID: 1, Invalid: true, Room: 1})
}

// Stores come and go, and so do IDs between others.
func TestGaps(t *testing.T) {
	x := even()
	b := x.bench(t, creating(4), creating(1), creating(3))
	b.checkTells(t, 73, 0, Line{ID: 1, Room: 4, Left: 4}, Line{ID: 2, Room: 1, Left: 1}, Line{ID: 3, Room: 3, Left: 3})
	b.mustDo(t, deleting(2), x.touching(0, 0))
	b.checkTells(t, 77, 0, Line{ID: 1, Room: 4, Used: 1, Left: 3, Share: 25}, Line{ID: 3, Room: 3, Used: 1, Left: 2, Share: 33})
	b.mustDo(t, deleting(1))
	b.checkTells(t, 87, 0, Line{ID: 3, Room: 3, Used: 1, Left: 2, Share: 33})
	b.mustDo(t, creating(1), creating(20), x.touching(0, 1), x.touching(0, 2))
	b.checkTells(t, 40, 0, Line{ID: 1, Invalid: true, Room: 1}, Line{ID: 2, Room: 20, Used: 2, Left: 18, Share: 10}, Line{ID: 3, Room: 3, Used: 3, Share: 100})
	b.mustDo(t, deleting(3))
	b.checkTells(t, 48, 0, Line{ID: 1, Invalid: true, Room: 1}, Line{ID: 2, Room: 20, Used: 2, Left: 18, Share: 10})
	b.mustDo(t, deleting(1), deleting(2))
	b.checkTells(t, 95, 0)
}

// All sixteen, and each set of gaps that some rules leave.
func TestAllSnapshots(t *testing.T) {
	x := small() // 79 sectors: sixteen stores of three, and one more of five
	for every := 1; every <= slotCount+1; every++ {
		b := x.bench(t)
		for range slotCount {
			b.mustDo(t, creating(1))
		}
		if n := len(b.status().Lines); n != slotCount {
			t.Fatalf("%d lines", n)
		}
		b.check(t)
		for id := 1; id <= slotCount; id++ {
			if id%every == 0 {
				b.mustDo(t, deleting(id))
			} else if id%3 == 0 {
				b.mustDo(t, x.touching(id, id%4))
			}
			b.check(t)
		}
		b.do(creating(4))
		b.check(t)
		b.mustDo(t, x.touching(0, 1))
		b.check(t)
		b.mustDo(t, x.touching(0, 2))
		b.check(t)
	}
}

// What a merge has left while it goes on: the first Step moves 0, the second one 2 and 3.
func TestMerge(t *testing.T) {
	x := even()
	b := x.bench(t, creating(4), creating(2), creating(4), creating(1), x.touching(1, 0), x.touching(1, 2), x.touching(1, 3), x.touching(4, 1))
	one, two, three, four := Line{ID: 1, Room: 4, Used: 3, Left: 1, Share: 75}, Line{ID: 2, Room: 2, Left: 2}, Line{ID: 3, Room: 4, Left: 4}, Line{ID: 4, Room: 1, Used: 1, Share: 100}
	b.checkTells(t, 65, 0, one, two, three, four)
	b.mustDo(t, merging(1))
	one.Merging = true
	b.checkTells(t, 65, 3, one, two, three, four)
	b.mustDo(t, x.touching(0, 3)) // into the exception
	b.checkTells(t, 65, 3, one, two, three, four)
	b.mustDo(t, stepping())
	one.Used, one.Left, one.Share = 2, 2, 50
	two.Used, two.Left, two.Share = 1, 1, 50
	three.Used, three.Left, three.Share = 1, 3, 25
	four = Line{ID: 4, Invalid: true, Room: 1}
	b.checkTells(t, 65, 2, one, two, three, four)
	b.mustDo(t, x.touching(0, 1)) // of which it has none
	two.Used, two.Left, two.Share = 2, 0, 100
	three.Used, three.Left, three.Share = 2, 2, 50
	b.checkTells(t, 65, 2, one, two, three, four)
	b.mustDo(t, stepping())
	two = Line{ID: 2, Invalid: true, Room: 2}
	three.Used, three.Left, three.Share = 4, 0, 100
	b.checkTells(t, 75, 0, two, three, four)
	if err := b.do(stepping()); err != api.ErrIdle {
		t.Fatalf("a merge goes on: %d", err)
	}
	b.checkTells(t, 75, 0, two, three, four)
}

// A merge that has nothing to move ends at once; one with many takes eight a Step.
func TestMergesOfNoneAndMany(t *testing.T) {
	x := single()
	b := x.bench(t, creating(20), creating(20), merging(1))
	b.checkTells(t, 140, 0, Line{ID: 2, Room: 20, Left: 20})
	b.mustDo(t, writing(2, 1, sectorsOf("b", 19)), merging(2))
	b.checkTells(t, 140, 19, Line{ID: 2, Merging: true, Room: 20, Used: 19, Left: 1, Share: 95})
	b.mustDo(t, stepping())
	b.checkTells(t, 140, 11, Line{ID: 2, Merging: true, Room: 20, Used: 11, Left: 9, Share: 55})
	b.mustDo(t, stepping())
	b.checkTells(t, 140, 3, Line{ID: 2, Merging: true, Room: 20, Used: 3, Left: 17, Share: 15})
	b.mustDo(t, stepping())
	b.checkTells(t, 163, 0)
}

// Mark alone can bring about a merge without exceptions that goes on, and one of an invalid snapshot.
func TestMarked(t *testing.T) {
	x := even()
	for _, c := range []struct {
		ahead []api.Command
		id    int
		lines []Line
	}{
		{[]api.Command{creating(3)}, 1, []Line{{ID: 1, Merging: true, Room: 3, Left: 3}}},
		{[]api.Command{creating(2), creating(1), x.touching(0, 1), x.touching(0, 2)}, 2, []Line{{ID: 1, Room: 2, Used: 2, Share: 100}, {ID: 2, Merging: true, Invalid: true, Room: 1}}},
	} {
		b := x.bench(t, c.ahead...)
		e := b.volume.Engine()
		if err := e.Mark(c.id, api.Merging); err != api.OK {
			t.Fatal(err)
		}
		checkStatus(t, e, Status{Free: b.status().Free, Lines: c.lines})
		if !c.lines[len(c.lines)-1].Invalid { // of an invalid one the disk can't be opened
			checkStatus(t, mustOpen(t, b.disk.Clone()), Status{Free: b.status().Free, Lines: c.lines})
		}
		if err := merge.Finish(e); err != api.OK {
			t.Fatal(err)
		}
		freed := x.size(c.lines[len(c.lines)-1].Room)
		checkStatus(t, e, Status{Free: b.status().Free + freed, Lines: c.lines[:len(c.lines)-1]})
	}
}

// A store counts what stands in it, also exceptions of chunks that the origin hasn't.
func TestOtherChunks(t *testing.T) {
	x := even()
	b := x.bench(t, creating(3))
	err := b.volume.Engine().Store(1).Add(store.Copy{Origin: 4, Data: sectorsOf("o", 2)}, store.Copy{Origin: 1<<31 - 2, Data: sectorsOf("p", 2)})
	if err != api.OK {
		t.Fatal(err)
	}
	want := Status{Free: 87, Lines: []Line{{ID: 1, Room: 3, Used: 2, Left: 1, Share: 66}}}
	checkStatus(t, b.volume.Engine(), want)
	checkStatus(t, mustOpen(t, b.disk), want)
}

// Each number of chunks used of each room up to 160.
func TestShares(t *testing.T) {
	seen := map[int64]bool{}
	for first := 1; first <= 160; first += slotCount {
		x := site{first*300 + 20000, 176, 1}
		b := x.bench(t)
		for room := first; room < first+slotCount; room++ {
			b.mustDo(t, creating(room))
		}
		for c := range first + slotCount {
			checkStatus(t, b.volume.Engine(), b.status())
			for _, l := range b.status().Lines {
				seen[l.Share] = true
			}
			b.mustDo(t, x.touching(0, c))
		}
		b.check(t)
	}
	if len(seen) != 101 {
		t.Errorf("only %d shares were there", len(seen))
	}
}

// Shares of great rooms, at each hundredth, and beside it; and some that a ratio would miss that is taken ahead of the hundred.
func TestShareOfGreatRooms(t *testing.T) {
	rooms := []int{1, 2, 3, 7, 99, 100, 101, 127, 128, 999, 1000, 1001, 4097, 65535, 65536, 65537, 99999, 100000, 349525, 1<<19 - 1, 1000000, diskEnd - 1, diskEnd}
	for _, room := range rooms {
		for hundredths := 0; hundredths <= 100; hundredths++ {
			edge := hundredths * room / 100
			for used := max(0, edge-2); used <= min(room, edge+2); used++ {
				want := int64(100 * used / room)
				if got := share(used, room); got != want {
					t.Errorf("of %d places %d are used: share %d, want %d", room, used, got, want)
				}
			}
		}
	}
	for _, x := range []struct {
		used, room int
		want       int64
	}{{0, 1, 0}, {1, 1, 100}, {29, 100, 29}, {57, 100, 57}, {58, 100, 58}, {7, 25, 28}, {1, 3, 33}, {2, 3, 66}, {99, 100, 99}, {999, 1000, 99}, {diskEnd - 1, diskEnd, 99}, {diskEnd, diskEnd, 100}} {
		if got := share(x.used, x.room); got != x.want {
			t.Errorf("of %d places %d are used: share %d, want %d", x.room, x.used, got, x.want)
		}
	}
}

// The greatest store that there can be has its room, too.
func TestGreatestStore(t *testing.T) {
	x := site{diskEnd, 1, 1}
	room := 1
	for step := 1 << 19; step > 0; step /= 2 {
		if x.size(room+step) <= diskEnd-firstOrigin-1 {
			room += step
		}
	}
	b := x.bench(t, creating(room), x.touching(1, 0))
	b.checkTells(t, diskEnd-firstOrigin-1-x.size(room), 0, Line{ID: 1, Room: room, Used: 1, Left: room - 1})
}

// P22.1: many commands in no order.
func TestManyCommands(t *testing.T) {
	for i, x := range sites() {
		r := numbers(i + 77)
		b := x.bench(t)
		merges, invalid := 0, 0
		for range 1500 {
			c := x.anyCommand(&r)
			b.do(c)
			b.check(t)
			for _, l := range b.status().Lines {
				if l.Merging {
					merges++
				}
				if l.Invalid {
					invalid++
				}
			}
		}
		if merges < 10 || invalid < 10 && x != only() {
			t.Errorf("of %v: only %d lines of merges, %d of invalid ones", x, merges, invalid)
		}
	}
}

// Behind failures, and behind a disk that is opened again, that is told which stands there.
func TestManyFailures(t *testing.T) {
	for i, x := range sites() {
		r := numbers(i + 99)
		b := x.bench(t)
		failed := 0
		for range 1500 {
			b.disk.Fail(r.below(1 + r.below(40)))
			c := x.anyCommand(&r)
			_, err := b.volume.Do(c)
			if err == api.ErrCrash {
				failed++
			}
			if _, err := Of(b.volume.Engine()); err != api.OK {
				t.Fatalf("behind %s Of tells %d", short(c), err)
			}
			b.openAgain(t, &r)
			checkStatus(t, b.volume.Engine(), x.standing(t, b.disk))
			checkStatus(t, mustOpen(t, b.disk), x.standing(t, b.disk))
		}
		if failed < 100 {
			t.Errorf("of %v: only %d failures", x, failed)
		}
	}
}

// P2, rules 3 and 4: Of only looks.

// It is no thing that a disk does, reads nothing, and tells the same again, whatever is done with what it told.
func TestOfOnlyLooks(t *testing.T) {
	x := even()
	b := x.bench(t, creating(4), creating(1), x.touching(0, 0), x.touching(1, 2), x.touching(0, 1), merging(1))
	if _, err := b.disk.Read(0, 1); err != api.OK {
		t.Fatal(err)
	}
	b.disk.Write(b.disk.Sectors()-1, sectorOf("pending"))
	b.disk.Fail(0)
	want := Status{Free: 81, Left: 3, Lines: []Line{{ID: 1, Merging: true, Room: 4, Used: 3, Left: 1, Share: 75}, {ID: 2, Invalid: true, Room: 1}}}
	stands, pending := b.disk.Bytes(), b.disk.Pending()
	for range 3 {
		checkStatus(t, b.volume.Engine(), want)
	}
	if b.disk.Dead() || b.disk.Bytes() != stands || b.disk.Pending() != pending {
		t.Error("the disk is another one")
	}
	if err := b.disk.Flush(); err != api.ErrCrash {
		t.Errorf("the fuse is another one: %d", err)
	}
	checkStatus(t, b.volume.Engine(), want)
	if b.disk.Bytes() != stands || b.disk.Pending() != pending {
		t.Error("the dead disk is another one")
	}
}

func TestLinesAreNew(t *testing.T) {
	x := even()
	b := x.bench(t, creating(2), creating(3), x.touching(0, 1))
	one, _ := Of(b.volume.Engine())
	two, _ := Of(b.volume.Engine())
	for i := range one.Lines {
		one.Lines[i] = Line{ID: -1}
	}
	one.Lines = append(one.Lines[:1], Line{ID: -2})
	if !same(two, b.status()) {
		t.Errorf("an answer is changed by another one: %+v", two)
	}
	b.check(t)
}

// Engines of two disks are told apart.
func TestTwoEngines(t *testing.T) {
	one, two := even().bench(t, creating(2)), single().bench(t, creating(5), creating(7))
	for c := range 4 {
		one.check(t)
		two.mustDo(t, two.touching(0, c))
		two.check(t)
		one.do(one.touching(0, c))
	}
	one.check(t)
}

// P1: an engine whose disk failed in the midst of a call is not used any more, but looking at it does not panic.
func TestOfFailedEngines(t *testing.T) {
	x := even()
	ahead := []api.Command{creating(3), creating(4), creating(1), x.touching(1, 0), x.touching(1, 1), x.touching(3, 2)}
	for _, c := range []api.Command{creating(2), deleting(2), x.touching(0, 3), x.touching(1, 3), x.touching(3, 0), merging(1), stepping()} {
		for fuse := 0; ; fuse++ {
			b := x.bench(t, ahead...)
			if c.Op == "step" {
				b.mustDo(t, merging(1))
			}
			b.disk.Fail(fuse)
			_, failed := b.volume.Do(c)
			if s, err := Of(b.volume.Engine()); err != api.OK || len(s.Lines) < 2 || len(s.Lines) > 4 {
				t.Fatalf("%s, fuse %d: Of = %+v, %d", short(c), fuse, s, err)
			}
			if failed != api.ErrCrash {
				break
			}
		}
	}
}

// The document's example: of a disk of 80 sectors, an origin of 4, chunks of 2.
func TestExample(t *testing.T) {
	x := site{80, 4, 2}
	b := x.bench(t, creating(2), writing(0, 0, sectorsOf("a", 2)))
	b.checkTells(t, 53, 0, Line{ID: 1, Room: 2, Used: 1, Left: 1, Share: 50})
}

// Engines that snap itself gave, of a disk that was formatted by it.
func TestPlainEngine(t *testing.T) {
	d := disk.New(80)
	if err := snap.Format(d, api.Super{Sectors: 60, Origin: 8, Chunk: 2}); err != api.OK {
		t.Fatal(err)
	}
	e := mustOpen(t, d)
	checkStatus(t, e, Status{Free: 35})
	for want := 1; want <= 3; want++ {
		if id, err := e.Create(4); id != want || err != api.OK {
			t.Fatalf("Create = %d, %d", id, err)
		}
	}
	line := func(id int) Line { return Line{ID: id, Room: 4, Left: 4} }
	checkStatus(t, e, Status{Free: 5, Lines: []Line{line(1), line(2), line(3)}})
	if err := e.Save(2); err != api.OK {
		t.Fatal(err)
	}
	saved := func(id int) Line { return Line{ID: id, Room: 4, Used: 1, Left: 3, Share: 25} }
	checkStatus(t, e, Status{Free: 5, Lines: []Line{saved(1), saved(2), saved(3)}})
	if err := e.Store(2).Spoil(); err != api.OK {
		t.Fatal(err)
	}
	checkStatus(t, e, Status{Free: 5, Lines: []Line{saved(1), {ID: 2, Invalid: true, Room: 4}, saved(3)}})
	if err := e.Store(3).Remove(2); err != api.OK {
		t.Fatal(err)
	}
	want := Status{Free: 5, Lines: []Line{saved(1), {ID: 2, Invalid: true, Room: 4}, line(3)}}
	checkStatus(t, e, want)
	checkStatus(t, mustOpen(t, d), want)
}
