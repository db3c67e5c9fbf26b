package merge

import (
	"slices"
	"strings"
	"testing"

	"oakum/api"
	"oakum/disk"
	"oakum/snap"
	"oakum/store"
)

// four is one with four snapshots: the first one has no exceptions, the second one has all but one chunk's, the third one has
// one, and the fourth one is invalid. What stands of the origin is not what any of them has.
func four(t testing.TB, x site) *bench {
	b := x.bench(t, x.filling(0, "a"), creating(x.chunks()), creating(x.chunks()), creating(1), creating(1))
	for c := x.chunks() - 1; c > 0; c-- {
		b.mustDo(t, writing(2, c*x.chunk, sectorOf("b", c)))
	}
	b.mustDo(t, writing(3, x.origin-1, sectorOf("c")), writing(4, 0, sectorOf("d")))
	if err := b.engine.Store(4).Spoil(); err != api.OK {
		t.Fatal(err)
	}
	b.plain.spoil(b.snap(4))
	b.check(t)
	return b
}

// finishes does Steps, each held thing by thing, till the merge ends; how many there were.
func (b *bench) finishes(t testing.TB) int {
	t.Helper()
	n := 0
	for b.merging() != 0 {
		b.do(t, stepping())
		n++
	}
	return n
}

// P17.1: Begin.

func TestBegin(t *testing.T) {
	for _, x := range sites()[:6] {
		for id := 1; id <= 3; id++ {
			b := four(t, x)
			exceptions := len(b.snap(id).chunks())
			b.do(t, beginning(id))
			if goesOn := b.engine.Merging() == id; goesOn != (exceptions > 0) {
				t.Errorf("of %v: with %d exceptions the merge of %d goes on: %t", x, exceptions, id, goesOn)
			}
		}
	}
}

// Of one without exceptions nothing goes on behind Begin: the snapshot is no more, and its sectors are free.
func TestBeginWithoutExceptions(t *testing.T) {
	for _, x := range sites() {
		b := x.bench(t, x.filling(0, "a"), creating(1))
		free := b.engine.Free()
		b.do(t, beginning(1))
		if b.engine.Merging() != 0 || len(b.engine.IDs()) != 0 || Left(b.engine) != 0 || b.engine.Free() != free+x.size(1) {
			t.Errorf("of %v: merging %d, %v, %d left, %d free", x, b.engine.Merging(), b.engine.IDs(), Left(b.engine), b.engine.Free())
		}
		b.refuse(t, beginning(1), api.ErrNone)
		b.refuse(t, stepping(), api.ErrIdle)
		b.mustDo(t, creating(1))
		b.check(t)
	}
}

// One that had exceptions, none of which is left, has none.
func TestBeginOfOneWhoseExceptionsAreNoMore(t *testing.T) {
	x := even()
	b := x.bench(t, x.filling(0, "a"), creating(4), writing(1, 0, sectorsOf("b", 8)))
	if err := b.engine.Store(1).Remove(0, 1, 2, 3); err != api.OK {
		t.Fatal(err)
	}
	b.plain.remove(b.snap(1), []int{0, 1, 2, 3})
	b.do(t, beginning(1))
	if b.engine.Merging() != 0 {
		t.Error("a merge goes on")
	}
}

func TestBeginOfNone(t *testing.T) {
	for _, b := range []*bench{even().bench(t), four(t, cut())} {
		for _, id := range edges() {
			if b.snap(id) == nil {
				b.refuse(t, beginning(id), api.ErrNone)
			}
		}
	}
	b := four(t, even())
	b.mustDo(t, deleting(2))
	b.refuse(t, beginning(2), api.ErrNone)
}

func TestBeginOfAnInvalidOne(t *testing.T) {
	for _, x := range sites() {
		b := x.bench(t, x.filling(0, "a"), creating(1))
		b.engine.Store(1).Spoil()
		b.plain.spoil(b.snap(1))
		b.refuse(t, beginning(1), api.ErrInvalid)
	}
	b := even().bench(t, creating(1), writing(0, 0, sectorOf("a")), writing(0, 2, sectorOf("b"))) // no place was left
	b.refuse(t, beginning(1), api.ErrInvalid)
	b.engine = mustOpen(t, b.disk)
	b.refuse(t, beginning(1), api.ErrInvalid)
}

// While a merge goes on that is told first, whatever else is wrong: of itself, of another one, of one that is invalid, of none.
func TestBeginWhileOneGoesOn(t *testing.T) {
	for merging := 2; merging <= 3; merging++ {
		b := four(t, even())
		b.do(t, beginning(merging))
		for _, id := range edges() {
			b.refuse(t, beginning(id), api.ErrBusy)
		}
		b.finishes(t)
		b.refuse(t, beginning(merging), api.ErrNone)
		b.refuse(t, beginning(4), api.ErrInvalid)
	}
}

// P17.1: Step.

func TestStepWhereNoneGoesOn(t *testing.T) {
	even().bench(t).refuse(t, stepping(), api.ErrIdle)
	for _, x := range sites()[:6] {
		b := four(t, x)
		b.refuse(t, stepping(), api.ErrIdle)
		b.do(t, beginning(2))
		b.finishes(t)
		b.refuse(t, stepping(), api.ErrIdle)
	}
}

// Example 8 of the whole: of exceptions of the chunks 0, 2, 3 the first Step moves 0, the second one 2 and 3.
func TestExampleOfTwoSteps(t *testing.T) {
	x := even()
	b := x.bench(t, x.filling(0, "a"), creating(4))
	b.mustDo(t, x.touching(1, "b", 3, 0, 2)...)
	b.do(t, beginning(1))
	whole, _ := b.reads(0)
	for i, want := range []struct {
		left   int
		stands string
	}{
		{2, sectorOf("b", 0) + sectorsOf("a", 8)[64:]},
		{0, whole},
	} {
		if n, err := Step(b.engine); n != want.left || err != api.OK || Left(b.engine) != want.left {
			t.Fatalf("Step %d = %d, %d, want %d", i, n, err, want.left)
		}
		if s, err := b.engine.Origin().Read(0, 8); s != want.stands || err != api.OK {
			t.Errorf("behind Step %d %q stands, %d, want %q", i, s, err, want.stands)
		}
		if s, err := b.engine.Read(0, 0, 8); s != whole || err != api.OK {
			t.Errorf("behind Step %d %q is read, %d, want %q", i, s, err, whole)
		}
	}
	if whole != sectorOf("b", 0)+sectorsOf("a", 4)[64:]+sectorOf("b", 2)+sectorOf("a", 5)+sectorOf("b", 3)+sectorOf("a", 7) {
		t.Errorf("a plain one reads %q", whole)
	}
}

// What a Step does on the disk, written out: the second snapshot gets both chunks, the third one the first chunk, and then it
// is invalid; then the two chunks, a flush, the page of the exceptions, a flush, the slot, a flush.
func TestStepThingByThing(t *testing.T) {
	x := even()
	b := x.bench(t, x.filling(0, "a"), creating(2), creating(2), creating(1))
	b.mustDo(t, x.touching(1, "b", 2, 1)...)
	b.mustDo(t, beginning(1))
	p := b.plain.clone()
	one, two, three := p.snap(1), p.snap(2), p.snap(3)
	old := func(c int) string { return sectorOf("a", 2*c) + sectorOf("a", 2*c+1) }
	var want []thing
	save := func(s *snapshot, place, c int) {
		want = append(want, written(s.at.Start+2+2*place, old(c))...)
		s.places[place] = c
		want = append(want, flush, p.pageThing(s, 0), flush)
	}
	save(two, 0, 1)
	save(three, 0, 1)
	save(two, 1, 2)
	three.invalid = true
	want = append(want, p.headThing(three), flush)
	want = append(want, thing{19, sectorOf("b", 1)}, thing{20, sectorOf("a", 3)}, thing{21, sectorOf("b", 2)}, thing{22, sectorOf("a", 5)}, flush)
	one.places = []int{-1, -1}
	want = append(want, p.pageThing(one, 0), flush)
	want = append(want, p.mark(1, api.Free)...)
	step := func(d *disk.Disk, fuse int) api.Errno {
		e := mustOpen(t, d)
		d.Fail(fuse)
		n, err := Step(e)
		if n != 0 {
			t.Errorf("Step = %d", n)
		}
		return err
	}
	checkThings(t, b.disk, step, want, api.OK)
	b.do(t, stepping())
}

// Runs of fewer than 8 chunks, of just 8, and of more.
func TestStepOfRunsOfEachLength(t *testing.T) {
	x := single()
	for n := 1; n <= x.chunks(); n++ {
		for from := 0; from+n <= x.chunks(); from += 6 {
			b := x.bench(t, x.filling(0, "a"), creating(n), writing(1, from, sectorsOf("b", n)))
			b.do(t, beginning(1))
			for left := n; left > 0; {
				left -= min(left, 8)
				if got, err := Step(mustOpen(t, b.disk.Clone())); got != left || err != api.OK {
					t.Fatalf("Step from %d on = %d, %d, want %d", from, got, err, left)
				}
				b.do(t, stepping())
			}
			if b.engine.Merging() != 0 {
				t.Errorf("of %d chunks it goes on", n)
			}
		}
	}
}

// All ways in which exceptions can be of ten chunks, in an order that is not theirs.
func TestStepOfEachSet(t *testing.T) {
	x := site{90, 10, 1}
	for set := 1; set < 1<<10; set++ {
		var chunks []int
		for i := range 10 {
			if c := (i*7 + set) % 10; set>>c&1 == 1 {
				chunks = append(chunks, c)
			}
		}
		b := x.bench(t, x.filling(0, "a"), creating(len(chunks)), creating(4))
		b.mustDo(t, x.touching(1, "b", chunks...)...)
		b.mustDo(t, x.touching(2, "c", set%10)...)
		b.mustDo(t, beginning(1))
		if set%16 == 5 {
			b.finishes(t)
		}
		for b.merging() != 0 {
			b.mustDo(t, stepping())
			b.check(t)
		}
	}
}

// Exceptions at places in no order, on several pages: each page that is changed is written once, rising.
func TestStepOfPlacesInNoOrder(t *testing.T) {
	x := site{200, 40, 1}
	for _, by := range []int{1, 39, 3, 7, 11, 13, 17, 27} {
		var chunks []int
		for i := range x.chunks() {
			chunks = append(chunks, (i*by+5)%x.chunks())
		}
		b := x.bench(t, x.filling(0, "a"), creating(x.chunks()))
		b.mustDo(t, x.touching(1, "b", chunks...)...)
		b.mustDo(t, beginning(1))
		if n := b.finishes(t); n != 5 {
			t.Errorf("by %d: %d Steps", by, n)
		}
	}
}

// Of a last chunk that is cut short only the sectors that are there are written.
func TestStepOfTheLastChunk(t *testing.T) {
	for _, x := range []site{cut(), wide(), only(), long(), even(), {40, 1, 1}, {160, 1, 30}} {
		for _, others := range []int{0, 1} {
			b := x.bench(t, x.filling(0, "a"), creating(1))
			for range others {
				b.mustDo(t, creating(1))
			}
			b.mustDo(t, writing(1, x.origin-1, sectorOf("b")), beginning(1))
			if n := b.finishes(t); n != 1 {
				t.Errorf("of %v: %d Steps", x, n)
			}
		}
	}
}

// Chunks that other snapshots need: with a place, without one, with the exception, invalid, and with a place for one alone.
func TestStepOfChunksThatOthersNeed(t *testing.T) {
	x := single()
	for _, merging := range []int{1, 4, 7} {
		b := x.bench(t, x.filling(0, "a"))
		for id := 1; id <= 7; id++ {
			room := []int{4, 1, 2, 4, 1, 3, 8}[id-1]
			if id == merging {
				room = 4
			}
			b.mustDo(t, creating(room))
		}
		for _, id := range []int{1, 2, 3, 4, 5, 6, 7} {
			switch {
			case id == merging:
				b.mustDo(t, x.touching(id, "merged", 6, 4, 5, 12)...)
			case id == 2:
				b.mustDo(t, x.touching(id, "full", 9)...)
			case id == 3:
				b.mustDo(t, x.touching(id, "has", 5)...)
			case id == 5:
				b.engine.Store(5).Spoil()
				b.plain.spoil(b.snap(5))
			}
		}
		b.do(t, beginning(merging))
		b.finishes(t)
		var valid []int
		for _, id := range b.engine.IDs() {
			if !b.engine.Store(id).Invalid() {
				valid = append(valid, id)
			}
		}
		want := slices.DeleteFunc([]int{1, 4, 7}, func(id int) bool { return id == merging }) // 6 has three places, and four were needed
		if !slices.Equal(valid, want) {
			t.Errorf("merging %d: %v are valid, want %v", merging, valid, want)
		}
	}
}

// Behind the last Step the snapshot is no more, its sectors are free, and all that is refused while a merge goes on isn't.
func TestTheLastStep(t *testing.T) {
	for _, x := range sites() {
		b := x.bench(t, x.filling(0, "a"), creating(x.chunks()))
		b.mustDo(t, x.filling(1, "b"), beginning(1))
		free := b.engine.Free()
		for left := x.chunks(); left > 0; left = Left(b.engine) {
			if b.engine.Merging() != 1 || b.engine.Free() != free {
				t.Fatalf("of %v: merging %d, %d free, with %d left", x, b.engine.Merging(), b.engine.Free(), left)
			}
			if _, err := b.engine.Create(1); err != api.ErrBusy {
				t.Errorf("of %v: Create = %d", x, err)
			}
			b.do(t, stepping())
		}
		if b.engine.Merging() != 0 || len(b.engine.IDs()) != 0 || b.engine.Free() != free+x.size(x.chunks()) {
			t.Errorf("of %v: merging %d, %v, %d free", x, b.engine.Merging(), b.engine.IDs(), b.engine.Free())
		}
		if s, err := b.engine.Origin().Read(0, x.origin); s != sectorsOf("b", x.origin) || err != api.OK {
			t.Errorf("of %v: %q stands, %d", x, s, err)
		}
		b.mustDo(t, creating(x.chunks()))
		b.check(t)
	}
}

// Where a merge without exceptions goes on, as behind a failure, a Step ends it.
func TestStepWithoutExceptions(t *testing.T) {
	for _, x := range sites() {
		b := x.bench(t, x.filling(0, "a"), creating(1), creating(1), marking(1, api.Merging))
		b.disk.Write(x.sectors, sectorOf("pending")) // behind the layout
		b.do(t, stepping())
		if !slices.Equal(b.engine.IDs(), []int{2}) || b.disk.Pending() != 0 {
			t.Errorf("of %v: %v, %d pending", x, b.engine.IDs(), b.disk.Pending())
		}
		b.refuse(t, stepping(), api.ErrIdle)
	}
}

// P17.1: Left and Finish.

func TestLeftAndFinishWhereNoneGoesOn(t *testing.T) {
	for _, b := range []*bench{even().bench(t), four(t, cut()), four(t, single())} {
		if n := Left(b.engine); n != 0 {
			t.Errorf("Left = %d", n)
		}
		b.quiet(t, finishing(), api.OK)
	}
}

func TestLeftAndFinishWithExceptions(t *testing.T) {
	x := single()
	b := x.bench(t, x.filling(0, "a"), creating(20), creating(3), writing(2, 7, sectorsOf("c", 3)), writing(1, 2, sectorsOf("b", 12)))
	b.mustDo(t, x.touching(1, "b", 19, 16)...)
	b.mustDo(t, beginning(1))
	for _, want := range []int{14, 6, 2, 1} {
		if n := Left(b.engine); n != want {
			t.Errorf("Left = %d, want %d", n, want)
		}
		b.quiet(t, finishing(), api.OK)
		b.engine = mustOpen(t, b.disk)
		if n := Left(b.engine); n != want {
			t.Errorf("behind Open Left = %d, want %d", n, want)
		}
		b.do(t, stepping())
	}
	if n := Left(b.engine); n != 0 {
		t.Errorf("Left = %d", n)
	}
	b.quiet(t, finishing(), api.OK)
}

func TestLeftAndFinishWithoutExceptions(t *testing.T) {
	for _, x := range sites() {
		b := x.bench(t, x.filling(0, "a"), creating(1), creating(1), marking(2, api.Merging))
		if n := Left(b.engine); n != 0 {
			t.Errorf("of %v: Left = %d", x, n)
		}
		b.do(t, finishing())
		if !slices.Equal(b.engine.IDs(), []int{1}) || b.engine.Merging() != 0 {
			t.Errorf("of %v: %v, merging %d", x, b.engine.IDs(), b.engine.Merging())
		}
		b.quiet(t, finishing(), api.OK)
	}
}

// P1, and what M1 says of a nil engine, of a dead disk, and of merges that only other calls can bring about.

func TestNilEngine(t *testing.T) {
	var e *snap.Engine
	for _, id := range edges() {
		if err := Begin(e, id); err != api.ErrArg {
			t.Errorf("Begin(%d) = %d", id, err)
		}
	}
	if n, err := Step(e); n != 0 || err != api.ErrArg {
		t.Errorf("Step = %d, %d", n, err)
	}
	if n := Left(e); n != 0 {
		t.Errorf("Left = %d", n)
	}
	if err := Finish(e); err != api.ErrArg {
		t.Errorf("Finish = %d", err)
	}
}

func TestDeadDisk(t *testing.T) {
	x := even()
	begun := func(others int) *bench {
		b := x.bench(t, x.filling(0, "a"), creating(2), writing(1, 0, sectorOf("b")))
		for range others {
			b.mustDo(t, creating(1))
		}
		b.mustDo(t, beginning(1))
		return b
	}
	for _, c := range []struct {
		b    *bench
		call call
		want api.Errno
		left int
	}{
		{x.bench(t, creating(1)), beginning(1), api.ErrCrash, 0},
		{x.bench(t, creating(1), writing(1, 0, sectorOf("b"))), beginning(1), api.ErrCrash, 0},
		{begun(0), stepping(), api.ErrCrash, 1},
		{begun(1), stepping(), api.ErrCrash, 1},
		{begun(1), finishing(), api.OK, 1},
		{x.bench(t, creating(1), marking(1, api.Merging)), stepping(), api.ErrCrash, 0},
		{x.bench(t, creating(1), marking(1, api.Merging)), finishing(), api.ErrCrash, 0},
		{x.bench(t, creating(1)), finishing(), api.OK, 0},
	} {
		die(c.b.disk)
		before := c.b.disk.Clone()
		if n, err := c.call.on(c.b.engine); n != 0 || err != c.want {
			t.Errorf("%v = %d, %d, want %d", c.call, n, err, c.want)
		}
		if n := Left(c.b.engine); n != c.left {
			t.Errorf("Left = %d, want %d", n, c.left)
		}
		checkDisks(t, c.b.disk, before)
	}
}

// One that is invalid can only be Merging by Mark; its merge goes on without exceptions, and ends.
func TestMergeOfAnInvalidOne(t *testing.T) {
	for _, c := range []call{stepping(), finishing()} {
		b := four(t, even())
		b.mustDo(t, marking(4, api.Merging))
		b.refuse(t, beginning(1), api.ErrBusy)
		if n := Left(b.engine); n != 0 {
			t.Errorf("Left = %d", n)
		}
		b.do(t, c)
		if b.engine.Merging() != 0 || !slices.Equal(b.engine.IDs(), []int{1, 2, 3}) {
			t.Errorf("merging %d, %v", b.engine.Merging(), b.engine.IDs())
		}
	}
}

// A disk may be opened on which a store has exceptions of chunks that the origin hasn't: nobody reads them, and the merge
// goes on to its end.
func TestMergeOfChunksThatAreNotThere(t *testing.T) {
	for _, x := range sites() {
		there := x.chunks() - 1
		far := []int{1<<31 - 2, there + 1, there + 9, there, there + 2}
		b := x.bench(t, x.filling(0, "a"))
		room := min(5, x.room(x.stores().Len-x.size(1)))
		b.mustDo(t, creating(room), creating(1))
		var l []store.Copy
		for _, c := range far[:min(room, len(far))] {
			l = append(l, store.Copy{Origin: c, Data: sectorsOf("far", x.chunk)})
			b.plain.add(b.snap(1), c, sectorsOf("far", x.chunk))
		}
		if err := b.engine.Store(1).Add(l...); err != api.OK {
			t.Fatal(err)
		}
		b.engine = mustOpen(t, b.disk)
		b.do(t, beginning(1))
		n := Left(b.engine)
		if steps := b.finishes(t); steps > n {
			t.Errorf("of %v: %d Steps for %d exceptions", x, steps, n)
		}
	}
}

// askAll does all calls, with an engine that may be behind an error: each ends, and none panics.
func askAll(e *snap.Engine) {
	for _, id := range []int{-1, 0, 1, 2, 3, 4, 17} {
		Begin(e, id)
		Left(e)
		Step(e)
		Finish(e)
		e.Write(0, 0, strings.Repeat("z", sectorSize))
		Begin(e, id)
		Step(e)
		Left(e)
	}
}

func TestCallsBehindAFailure(t *testing.T) {
	for _, x := range stories() {
		b := x.bench(t, x.ahead...)
		for fuse := range 40 {
			for _, restart := range []bool{false, true} {
				d := b.disk.Clone()
				e := mustOpen(t, d)
				d.Fail(fuse)
				x.last.on(e)
				if restart {
					d.Restart(true, false, true)
				}
				askAll(e)
			}
		}
	}
}
