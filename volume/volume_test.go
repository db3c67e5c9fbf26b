package volume

import (
	"math"
	"slices"
	"strings"
	"testing"

	"oakum/api"
	"oakum/disk"
	"oakum/head"
	"oakum/layout"
	"oakum/merge"
	"oakum/slot"
	"oakum/snap"
	"oakum/store"
)

// P18.1: Format.

// ofFormat is what a disk of a new volume is asked with.
type ofFormat struct {
	what string
	disk *disk.Disk
	site
}

func formats(t testing.TB) []ofFormat {
	x := even()
	full := x.bench(t, x.crowd()...)
	pending := x.junk()
	pending.Write(0, sectorsOf("pending", x.sectors))
	return []ofFormat{
		{"junk", x.junk(), x}, {"as many sectors", disk.New(120), x}, {"more sectors", disk.New(121), x}, {"the fewest sectors", disk.New(25), site{25, 8, 2}},
		{"a volume", full.disk, x}, {"another volume", full.disk, site{60, 12, 3}}, {"pending writes", pending, x},
	}
}

// A disk that is formatted has no snapshots, and its origin reads what stood there.
func TestFormat(t *testing.T) {
	for _, f := range formats(t) {
		stood := f.plain(f.disk)
		v, err := Format(f.disk, f.super())
		if v == nil || err != api.OK || f.disk.Pending() != 0 {
			t.Fatalf("%s: %v, %d, %d pending", f.what, v, err, f.disk.Pending())
		}
		b := &bench{plain: stood, disk: f.disk, volume: v}
		b.check(t)
		b.do(t, creating(1))
		b.do(t, writing(0, 0, sectorOf("first")))
	}
}

// It is an engine's Format, thing by thing, and its error; no volume is told then.
func TestFormatIsAnEngines(t *testing.T) {
	for _, f := range formats(t) {
		for fuse := range formatThings + 3 {
			got, want := f.disk.Clone(), f.disk.Clone()
			got.Fail(fuse)
			want.Fail(fuse)
			wantErr := snap.Format(want, f.super())
			v, err := Format(got, f.super())
			if err != wantErr || (v == nil) != (err != api.OK) || (err == api.OK) != (fuse >= formatThings) {
				t.Fatalf("%s, fuse %d: %v, %d, want %d", f.what, fuse, v, err, wantErr)
			}
			checkDisks(t, got, want)
		}
	}
}

// badSupers may not be.
func badSupers() []api.Super {
	return []api.Super{
		{}, {Sectors: 60}, {Sectors: 60, Origin: 8}, {Sectors: 60, Chunk: 2}, {Origin: 8, Chunk: 2},
		{Sectors: 24, Origin: 8, Chunk: 2}, {Sectors: 60, Origin: 44, Chunk: 2}, {Sectors: 60, Origin: -1, Chunk: 2},
		{Sectors: 60, Origin: 8, Chunk: -1}, {Sectors: 60, Origin: 8, Chunk: 129}, {Sectors: diskEnd + 1, Origin: 8, Chunk: 2},
		{Sectors: math.MaxInt, Origin: 8, Chunk: 2}, {Sectors: math.MinInt, Origin: math.MaxInt, Chunk: math.MaxInt}, {Sectors: 60, Origin: math.MaxInt, Chunk: 2},
	}
}

// Of several errors that of a nil disk, and of a superblock, is told first, then that of too few sectors, then that of a dead
// disk; nothing is done.
func TestFormatOfWrongInputs(t *testing.T) {
	x := even()
	short, dead, shortAndDead := disk.New(x.sectors-1), x.junk(), disk.New(x.sectors-1)
	die(dead)
	die(shortAndDead)
	var none *disk.Disk
	all := []*disk.Disk{none, disk.New(0), short, dead, shortAndDead, x.junk(), x.bench(t).disk}
	for _, s := range badSupers() {
		for _, d := range all {
			checkNoFormat(t, d, s, api.ErrArg)
		}
	}
	checkNoFormat(t, none, x.super(), api.ErrArg)
	for _, d := range []*disk.Disk{disk.New(0), disk.New(1), short, shortAndDead} {
		checkNoFormat(t, d, x.super(), api.ErrRange)
	}
	checkNoFormat(t, dead, x.super(), api.ErrCrash)
}

func checkNoFormat(t testing.TB, d *disk.Disk, s api.Super, want api.Errno) {
	t.Helper()
	before := d.Clone()
	if v, err := Format(d, s); v != nil || err != want {
		t.Errorf("Format of %v on %d sectors = %v, %d, want %d", s, d.Sectors(), v, err, want)
	}
	checkDisks(t, d, before)
}

// P18.1: Open.

// crowd is five snapshots: the first one has exceptions of each second chunk, the second one has no place left, the third one
// has a single place, the fourth one is invalid (unless there is just one chunk), the fifth one has room for all chunks.
func (x site) crowd() []api.Command {
	l := []api.Command{x.filling(0, "a"), creating(x.chunks()), creating(1), creating(1), creating(1), creating(x.chunks())}
	for c := 0; c < x.chunks(); c += 2 {
		l = append(l, writing(1, c*x.chunk, sectorOf("b", c)))
	}
	l = append(l, writing(2, x.origin-1, sectorOf("c")), writing(4, 0, sectorOf("d")))
	if x.chunks() > 1 {
		l = append(l, writing(0, x.origin-1, sectorOf("e")))
		l = append(l, deleting(3), creating(1))
	}
	return l
}

// Behind whatever was done a disk is opened as it was, and it goes on.
func TestOpen(t *testing.T) {
	for _, x := range sites() {
		b := x.bench(t, x.crowd()...)
		b.check(t)
		merging := x.bench(t, append(x.crowd(), merging(1))...)
		merging.check(t)
		for _, b := range []*bench{b, merging} {
			b.volume = mustOpen(t, b.disk)
			b.do(t, writing(0, 0, sectorOf("f")))
			b.do(t, stepping())
			b.do(t, deleting(2))
		}
	}
}

// A merge without exceptions is ended, by the write of a slot and a flush: its snapshot is no more. One with exceptions goes on.
func TestOpenEndsAMerge(t *testing.T) {
	for _, x := range sites() {
		for id := 1; id <= 3; id++ {
			b := x.bench(t, x.filling(0, "a"), creating(x.chunks()), creating(1), creating(1))
			b.mustDo(t, writing(2, 0, sectorOf("b")))
			if err := b.volume.Engine().Mark(id, api.Merging); err != api.OK {
				t.Fatal(err)
			}
			b.mustPlain(t, merging(id))
			before := b.disk.Clone()
			b.volume = mustOpen(t, b.disk)
			b.check(t)
			if goesOn := b.volume.Engine().Merging() == id; goesOn != (id == 2) {
				t.Errorf("of %v: the merge of %d goes on: %t", x, id, goesOn)
			}
			checkFinishes(t, before, id != 2)
		}
	}
}

// mustPlain does a command on the plain one alone.
func (b *bench) mustPlain(t testing.TB, c api.Command) {
	t.Helper()
	if _, err := b.plain.do(c); err != api.OK {
		t.Fatalf("%s of a plain one = %d", short(c), err)
	}
}

// checkFinishes holds that the opening of a disk needs the power for two things, or for none, and tells ErrCrash without it.
func checkFinishes(t testing.TB, d *disk.Disk, ends bool) {
	t.Helper()
	for fuse := range 4 {
		again := d.Clone()
		again.Fail(fuse)
		v, err := Open(again)
		want := api.OK
		if ends && fuse < 2 {
			want = api.ErrCrash
		}
		if err != want || (v == nil) != (want != api.OK) {
			t.Errorf("fuse %d: Open = %v, %d, want %d", fuse, v, err, want)
		}
		if pending := again.Pending(); pending != 0 && (fuse != 1 || pending != 1) {
			t.Errorf("fuse %d: %d pending", fuse, pending)
		}
	}
}

// It is an engine's Open, and then the end of a merge, thing by thing; their errors.
func TestOpenIsAnEngines(t *testing.T) {
	for _, d := range openings(t) {
		for fuse := range 4 {
			got, want := d.Clone(), d.Clone()
			got.Fail(fuse)
			want.Fail(fuse)
			e, wantErr := snap.Open(want)
			if wantErr == api.OK {
				wantErr = merge.Finish(e)
			}
			v, err := Open(got)
			if err != wantErr || (v == nil) != (err != api.OK) {
				t.Errorf("fuse %d: Open = %v, %d, want %d", fuse, v, err, wantErr)
			}
			checkDisks(t, got, want)
		}
	}
}

// openings are disks that can be opened, and others.
func openings(t testing.TB) []*disk.Disk {
	x := even()
	empty, full, merging := x.bench(t), x.bench(t, x.crowd()...), x.bench(t, append(x.crowd(), merging(1))...)
	ends := x.bench(t, x.crowd()...)
	ends.volume.Engine().Mark(5, api.Merging)
	dead := full.disk.Clone()
	die(dead)
	pending := ends.disk.Clone()
	pending.Write(firstOrigin, sectorsOf("pending", 5))
	l := []*disk.Disk{disk.New(0), x.junk(), dead, empty.disk, full.disk, merging.disk, ends.disk, pending}
	for _, d := range corrupt(t) {
		l = append(l, d)
	}
	return l
}

// corrupt are disks on which can't stand what stands there.
func corrupt(t testing.TB) map[string]*disk.Disk {
	x := even()
	crowded := x.bench(t, x.crowd()...)
	changed := func(change func(*disk.Disk)) *disk.Disk {
		d := crowded.disk.Clone()
		change(d)
		return d
	}
	at := func(id int) api.Slot {
		s, _ := crowded.volume.Engine().Slot(id)
		return s
	}
	slotted := func(id int, change func(*api.Slot)) *disk.Disk {
		s := at(id)
		change(&s)
		return changed(func(d *disk.Disk) { setSlot(t, d, id, s) })
	}
	two := slotted(1, func(s *api.Slot) { s.State = api.Merging })
	five := at(5)
	five.State = api.Merging
	setSlot(t, two, 5, five)
	return map[string]*disk.Disk{
		"no sector":            disk.New(0),
		"one sector":           disk.New(1),
		"bytes 0":              disk.New(120),
		"junk":                 x.junk(),
		"no superblock":        changed(func(d *disk.Disk) { setSector(t, d, 0, sectorOf("none")) }),
		"cut short":            disk.Load(crowded.disk.Bytes()[:(x.sectors-1)*sectorSize]),
		"the superblock alone": disk.Load(crowded.disk.Bytes()[:sectorSize]),
		"a slot is none's":     changed(func(d *disk.Disk) { setSector(t, d, firstSlot+9, sectorOf("none")) }),
		"the last slot":        changed(func(d *disk.Disk) { setSector(t, d, firstSlot+15, sectorOf("none")) }),
		"over another one":     slotted(1, func(s *api.Slot) { s.Store = at(2).Store }),
		"in the origin":        slotted(1, func(s *api.Slot) { s.Store.Start = 20 }),
		"behind all":           slotted(1, func(s *api.Slot) { s.Store.Start = 117 }),
		"two are Merging":      two,
		"invalid and Merging":  slotted(4, func(s *api.Slot) { s.State = api.Merging }),
		"another generation":   slotted(2, func(s *api.Slot) { s.Gen++ }),
		"no head":              changed(func(d *disk.Disk) { setSector(t, d, at(1).Store.Start, sectorOf("none")) }),
		"no page":              changed(func(d *disk.Disk) { setSector(t, d, at(1).Store.Start+1, sectorOf("none")) }),
	}
}

// Of several errors that of a nil disk is told, then that of a dead one; nothing is done.
func TestOpenOfWrongInputs(t *testing.T) {
	if v, err := Open(nil); v != nil || err != api.ErrArg {
		t.Errorf("Open of a nil disk = %v, %d", v, err)
	}
	for what, d := range corrupt(t) {
		before := d.Clone()
		d.Fail(0)
		if v, err := Open(d); v != nil || err != api.ErrCorrupt || d.Dead() {
			t.Errorf("%s: Open = %v, %d, want ErrCorrupt", what, v, err)
		}
		d.Fail(-1)
		checkDisks(t, d, before)
		die(d)
		if v, err := Open(d); v != nil || err != api.ErrCrash {
			t.Errorf("%s, dead: Open = %v, %d, want ErrCrash", what, v, err)
		}
	}
	b := even().bench(t)
	die(b.disk)
	if v, err := Open(b.disk); v != nil || err != api.ErrCrash {
		t.Errorf("Open of a dead disk = %v, %d", v, err)
	}
}

// One that is Merging, and has exceptions of chunks alone that the origin hasn't, has exceptions: its merge goes on.
func TestOpenOfChunksThatAreNotThere(t *testing.T) {
	x := even()
	b := x.bench(t, x.filling(0, "a"), creating(4))
	if err := b.volume.Engine().Store(1).Add(store.Copy{Origin: 9, Data: sectorsOf("far", 2)}); err != api.OK {
		t.Fatal(err)
	}
	if _, err := b.volume.Do(merging(1)); err != api.OK {
		t.Fatal(err)
	}
	v := mustOpen(t, b.disk)
	if v.Engine().Merging() != 1 {
		t.Error("it is ended")
	}
	if r, err := v.Do(stepping()); !slices.Equal(r.N, []int{0}) || err != api.OK || v.Engine().Merging() != 0 {
		t.Errorf("step = %v, %d", r.N, err)
	}
}

// P18.1: Do.

// The six commands, written out: what each tells, and what it leaves empty.
func TestDo(t *testing.T) {
	d := disk.New(90)
	v, err := Format(d, api.Super{Sectors: 90, Origin: 8, Chunk: 2})
	if err != api.OK {
		t.Fatal(err)
	}
	one, two, none := sectorOf("one"), sectorOf("two"), strings.Repeat("\x00", sectorSize)
	for i, x := range []struct {
		c    api.Command
		data string
		n    []int
	}{
		{writing(0, 0, one+two), "", nil},
		{reading(0, 0, 3), one + two + none, nil},
		{reading(0, 8, 0), "", nil},
		{creating(4), "", []int{1}},
		{creating(1), "", []int{2}},
		{writing(0, 1, one), "", nil},
		{reading(0, 0, 2), one + one, nil},
		{reading(1, 0, 2), one + two, nil},
		{reading(2, 1, 1), two, nil},
		{writing(1, 4, two+two), "", nil},
		{writing(1, 7, ""), "", nil},
		{reading(0, 4, 2), none + none, nil},
		{deleting(2), "", nil},
		{creating(1), "", []int{2}},
		{deleting(2), "", nil},
		{merging(1), "", nil},
		{reading(0, 0, 8), one + two + none + none + two + two + none + none, nil},
		{stepping(), "", []int{1}},
		{writing(0, 5, one), "", nil},
		{stepping(), "", []int{0}},
		{reading(0, 0, 8), one + two + none + none + two + one + none + none, nil},
	} {
		if r, err := v.Do(x.c); r.Data != x.data || !slices.Equal(r.N, x.n) || err != api.OK {
			t.Errorf("%d, %s = %q, %v, %d, want %q, %v", i, short(x.c), r.Data, r.N, err, x.data, x.n)
		}
	}
}

// Example 7 of the whole: behind a write of the second chunk a snapshot with room for one is invalid.
func TestDoInvalid(t *testing.T) {
	x := even()
	b := x.bench(t, x.filling(0, "a"), creating(1), creating(2), creating(2))
	b.do(t, writing(0, 1, sectorsOf("b", 2)))
	b.refuse(t, reading(1, 0, 1), api.ErrInvalid)
	b.do(t, reading(2, 0, 8))
	if err := b.do(t, writing(3, 0, sectorsOf("c", 5))); err != api.ErrInvalid { // two places are left for three chunks
		t.Errorf("write = %d", err)
	}
	b.refuse(t, reading(3, 0, 1), api.ErrInvalid)
	for id := 3; id > 0; id-- {
		b.do(t, deleting(id))
	}
}

// onEngine is what the chapter says that a command asks an engine, and what that tells.
func onEngine(e *snap.Engine, c api.Command) (api.Reply, api.Errno) {
	switch c.Op {
	case "read":
		s, err := e.Read(c.ID, c.At, c.N)
		return api.Reply{Data: s}, err
	case "write":
		return api.Reply{}, e.Write(c.ID, c.At, c.Data)
	case "create":
		id, err := e.Create(c.N)
		if err != api.OK {
			return api.Reply{}, err
		}
		return api.Reply{N: []int{id}}, err
	case "delete":
		return api.Reply{}, e.Delete(c.ID)
	case "merge":
		return api.Reply{}, merge.Begin(e, c.ID)
	case "step":
		left, err := merge.Step(e)
		if err != api.OK {
			return api.Reply{}, err
		}
		return api.Reply{N: []int{left}}, err
	}
	return api.Reply{}, api.ErrArg
}

// Each command is an engine's call, thing by thing on the disk, and its error.
func TestDoIsAnEngines(t *testing.T) {
	for i, x := range sites() {
		r := numbers(i + 31)
		b := x.bench(t, x.crowd()...)
		for range 150 {
			c := x.anyCommand(&r)
			for fuse := range 9 {
				checkDoIsAnEngines(t, b.disk, c, fuse*fuse-1)
			}
			b.do(t, c)
		}
	}
}

func checkDoIsAnEngines(t testing.TB, d *disk.Disk, c api.Command, fuse int) {
	t.Helper()
	got, want := d.Clone(), d.Clone()
	v := mustOpen(t, got)
	e, err := snap.Open(want)
	if err != api.OK {
		t.Fatal(err)
	}
	got.Fail(fuse)
	want.Fail(fuse)
	wantReply, wantErr := onEngine(e, c)
	if r, err := v.Do(c); !same(r, wantReply) || err != wantErr {
		t.Fatalf("%s, fuse %d = %q, %v, %d, want %q, %v, %d", short(c), fuse, r.Data, r.N, err, wantReply.Data, wantReply.N, wantErr)
	}
	checkDisks(t, got, want)
}

// What a command does not ask for is not looked at.
func TestDoLooksAtNothingElse(t *testing.T) {
	x := even()
	for _, n := range append(edges(), 3) {
		for _, junk := range []string{"", "?", sectorOf("junk"), strings.Repeat("x", 1000)} {
			b := x.bench(t, x.filling(0, "a"))
			write := writing(1, 2, sectorsOf("b", 3))
			write.N = n
			for _, c := range []api.Command{
				{Op: "create", ID: n, At: n, N: 3, Data: junk}, {Op: "read", ID: 1, At: 1, N: 4, Data: junk}, write,
				{Op: "merge", ID: 1, At: n, N: n, Data: junk}, {Op: "step", ID: n, At: n, N: n, Data: junk}, {Op: "create", ID: n, At: n, N: 1, Data: junk},
				{Op: "delete", ID: 1, At: n, N: n, Data: junk},
			} {
				b.mustDo(t, c)
			}
		}
	}
}

// others are Ops of no command.
func others() []string {
	return []string{
		"", " ", "\x00", "r", "rea", "reads", "Read", "READ", "rEad", " read", "read ", "read\n", "read\x00", "\x00read", "read write", "readwrite", "réad", "writ", "Write",
		"Create", "creat", "delet", "remove", "Merge", "merg", "begin", "finish", "steps", "Step", "ste", "format", "open", "do", "engine", "save", "mark", "free", "fail", "restart", "status",
		"\xff", strings.Repeat("read", 1<<16), "0", "1", "nil",
	}
}

// An Op of no command is told ahead of all else, and nothing is done, also with all else wrong.
func TestDoOfNoCommand(t *testing.T) {
	for _, b := range []*bench{even().bench(t), cut().bench(t, cut().crowd()...), even().bench(t, append(even().crowd(), merging(1))...)} {
		for _, op := range others() {
			for _, c := range []api.Command{{Op: op}, {Op: op, ID: 1, N: 1}, {Op: op, ID: 99, At: -1, N: -1, Data: "?"}} {
				b.refuse(t, c, api.ErrArg)
			}
		}
	}
}

// sixteen is a volume with as many snapshots as can be, of which the second one is invalid.
func sixteen(t testing.TB) *bench {
	x := small()
	b := x.bench(t, x.filling(0, "a"))
	for range slotCount {
		b.mustDo(t, creating(1))
	}
	b.mustDo(t, writing(2, 0, sectorOf("b")), writing(3, 1, sectorOf("c")))
	if err := tells(t, b.volume, b.plain, writing(2, 1, sectorOf("b"))); err != api.ErrInvalid {
		t.Fatalf("write = %d", err)
	}
	return b
}

// Each error of each command's call, and, of several, which one is told.
func TestDoOfWrongInputs(t *testing.T) {
	x := small()
	none := x.bench(t, x.filling(0, "a"), creating(4))
	full := sixteen(t)
	goesOn := sixteen(t)
	goesOn.mustDo(t, merging(3))
	few := site{27, 4, 1}.bench(t, creating(1)) // three sectors are left
	few.mustDo(t, creating(1))
	for _, w := range []struct {
		b    *bench
		c    api.Command
		want api.Errno
	}{
		{none, reading(2, 0, 1), api.ErrNone}, {none, reading(-1, -1, -1), api.ErrNone}, {full, reading(17, 9, 9), api.ErrNone},
		{goesOn, reading(3, 0, 1), api.ErrBusy}, {goesOn, reading(3, -1, 99), api.ErrBusy},
		{full, reading(2, 0, 1), api.ErrInvalid}, {full, reading(2, 4, 1), api.ErrInvalid},
		{none, reading(0, 4, 1), api.ErrRange}, {none, reading(0, 5, 0), api.ErrRange}, {none, reading(1, -1, 2), api.ErrRange}, {none, reading(1, 0, -1), api.ErrRange},
		{none, reading(0, math.MaxInt, math.MaxInt), api.ErrRange}, {none, reading(1, 1, math.MaxInt), api.ErrRange}, {none, reading(1, math.MinInt, math.MinInt), api.ErrRange},

		{none, writing(2, 0, sectorOf("x")), api.ErrNone}, {none, writing(2, -1, "?"), api.ErrNone},
		{goesOn, writing(3, 0, sectorOf("x")), api.ErrBusy}, {goesOn, writing(3, 4, "?"), api.ErrBusy},
		{full, writing(2, 0, sectorOf("x")), api.ErrInvalid}, {full, writing(2, -1, "?"), api.ErrInvalid},
		{none, writing(0, 0, "?"), api.ErrArg}, {none, writing(1, -1, "?"), api.ErrArg}, {none, writing(0, 0, sectorOf("x")+"?"), api.ErrArg},
		{none, writing(0, 4, sectorOf("x")), api.ErrRange}, {none, writing(1, 3, sectorsOf("x", 2)), api.ErrRange}, {none, writing(0, -1, ""), api.ErrRange}, {none, writing(0, math.MaxInt, sectorOf("x")), api.ErrRange},

		{goesOn, creating(1), api.ErrBusy}, {goesOn, creating(0), api.ErrBusy}, {goesOn, creating(99), api.ErrBusy},
		{full, creating(1), api.ErrFull}, {full, creating(0), api.ErrFull}, {full, creating(math.MaxInt), api.ErrFull},
		{none, creating(0), api.ErrRange}, {none, creating(math.MinInt), api.ErrRange}, {none, creating(diskEnd + 1), api.ErrRange}, {none, creating(math.MaxInt), api.ErrRange},
		{none, creating(diskEnd), api.ErrSpace}, {none, creating(70), api.ErrSpace}, {few, creating(1), api.ErrSpace}, {few, creating(0), api.ErrRange},

		{none, deleting(2), api.ErrNone}, {none, deleting(0), api.ErrNone}, {none, deleting(-1), api.ErrNone}, {goesOn, deleting(17), api.ErrNone}, {goesOn, deleting(3), api.ErrBusy},

		{goesOn, merging(3), api.ErrBusy}, {goesOn, merging(1), api.ErrBusy}, {goesOn, merging(2), api.ErrBusy}, {goesOn, merging(99), api.ErrBusy},
		{none, merging(2), api.ErrNone}, {none, merging(0), api.ErrNone}, {full, merging(17), api.ErrNone}, {full, merging(2), api.ErrInvalid},

		{none, stepping(), api.ErrIdle}, {full, stepping(), api.ErrIdle},
	} {
		w.b.refuse(t, w.c, w.want)
	}
}

// Each command with each number anywhere.
func TestDoOfAllNumbers(t *testing.T) {
	x := cut()
	for _, b := range []*bench{x.bench(t), x.bench(t, x.crowd()...), x.bench(t, append(x.crowd(), merging(1))...)} {
		for _, n := range edges() {
			for _, m := range edges() {
				for _, c := range []api.Command{reading(n, m, 1), reading(0, n, m), reading(1, n, m), writing(n, m, sectorOf("x")), writing(0, n, sectorsOf("y", 3)), creating(n), deleting(n), merging(n)} {
					if _, err := b.plain.clone().do(c); err != api.OK && !(c.Op == "write" && err == api.ErrInvalid) {
						if r, told := b.volume.Do(c); r.Data != "" || len(r.N) != 0 || told != err {
							t.Fatalf("%s = %q, %v, %d, want %d", short(c), r.Data, r.N, told, err)
						}
					}
				}
			}
		}
		b.check(t)
	}
}

// The greatest generation is told of last.
func TestCreateBehindTheGreatestGeneration(t *testing.T) {
	x := even()
	b := x.bench(t, x.filling(0, "a"), creating(1))
	setSlot(t, b.disk, slotCount, api.Slot{Gen: math.MaxUint32})
	b.volume = mustOpen(t, b.disk)
	b.check(t)
	b.refuse(t, creating(0), api.ErrRange)
	b.refuse(t, creating(99), api.ErrSpace)
	b.refuse(t, creating(1), api.ErrRange)
	setSlot(t, b.disk, slotCount, api.Slot{Gen: math.MaxUint32 - 1})
	b.volume = mustOpen(t, b.disk)
	b.do(t, creating(1))
	if s, err := b.volume.Engine().Slot(2); s.Gen != math.MaxUint32 || err != api.OK {
		t.Errorf("Slot = %v, %d", s, err)
	}
	b.refuse(t, creating(1), api.ErrRange)
}

// On a dead disk a command that nothing else is wrong with tells ErrCrash, and no reply.
func TestDoOnADeadDisk(t *testing.T) {
	for _, x := range sites() {
		for _, goesOn := range []bool{false, true} {
			b := x.bench(t, x.crowd()...)
			l := []api.Command{reading(0, 0, 1), reading(5, 0, x.origin), writing(0, 0, sectorOf("x")), writing(5, 0, sectorOf("x")), writing(0, 0, ""), deleting(5)}
			if goesOn {
				b.mustDo(t, merging(1))
				l = append(l, stepping())
			} else {
				l = append(l, creating(1), merging(1), merging(5))
			}
			die(b.disk)
			before := b.disk.Clone()
			for _, c := range l {
				if r, err := b.volume.Do(c); r.Data != "" || len(r.N) != 0 || err != api.ErrCrash {
					t.Errorf("%s = %q, %v, %d, want ErrCrash", short(c), r.Data, r.N, err)
				}
			}
			checkDisks(t, b.disk, before)
		}
	}
}

// P18.1: Engine, and a nil volume.

// The engine is the volume's own: what one does the other one tells.
func TestEngine(t *testing.T) {
	x := even()
	b := x.bench(t, x.filling(0, "a"), creating(2))
	e := b.volume.Engine()
	b.mustDo(t, writing(0, 3, sectorOf("b")), creating(1))
	if e == nil || e != b.volume.Engine() || !slices.Equal(e.IDs(), []int{1, 2}) || e.Store(1).Left() != 1 || e.Super() != x.super() {
		t.Errorf("%v, %d left, %v", e.IDs(), e.Store(1).Left(), e.Super())
	}
	b.mustDo(t, merging(1))
	if e.Merging() != 1 || merge.Left(e) != 1 {
		t.Errorf("merging %d, %d left", e.Merging(), merge.Left(e))
	}
	if other := mustOpen(t, b.disk); other.Engine() == e {
		t.Error("another volume has the same engine")
	}
}

// One that no call gave has no engine: it is as a nil one.
func TestNilVolume(t *testing.T) {
	for _, v := range []*Volume{nil, {}} {
		if e := v.Engine(); e != nil {
			t.Errorf("Engine = %v", e)
		}
		for _, op := range append(others(), "read", "write", "create", "delete", "merge", "step") {
			for _, n := range edges() {
				if r, err := v.Do(api.Command{Op: op, ID: n, At: n, N: n, Data: sectorOf("x")}); r.Data != "" || len(r.N) != 0 || err != api.ErrArg {
					t.Fatalf("%s = %q, %v, %d", op, r.Data, r.N, err)
				}
			}
		}
	}
}

// A reply is new memory: what is written into it is not told again.
func TestRepliesAreNew(t *testing.T) {
	x := even()
	b := x.bench(t, x.filling(0, "a"), creating(4), writing(1, 0, sectorOf("b")), writing(1, 4, sectorOf("c")), merging(1))
	first, err := b.volume.Do(stepping())
	if err != api.OK || !slices.Equal(first.N, []int{1}) {
		t.Fatalf("step = %v, %d", first.N, err)
	}
	first.N[0] = 99
	if n := merge.Left(b.volume.Engine()); n != 1 {
		t.Errorf("%d left", n)
	}
	if r, err := b.volume.Do(stepping()); !slices.Equal(r.N, []int{0}) || err != api.OK || first.N[0] != 99 {
		t.Errorf("step = %v, %d, and %v", r.N, err, first.N)
	}
}

// The helpers' own: the fourth snapshot of a crowd is invalid, by its head.
func TestCrowd(t *testing.T) {
	for _, x := range sites() {
		b := x.bench(t, x.crowd()...)
		l, err := layout.Of(x.super())
		if err != api.OK {
			t.Fatal(err)
		}
		if s := b.snap(1); s.invalid || len(s.has) == 0 || len(b.snap(2).has) != 1 && !b.snap(2).invalid {
			t.Errorf("of %v: %v", x, s)
		}
		if x.chunks() == 1 {
			continue
		}
		told, _ := b.volume.Engine().Slot(4)
		data, _ := b.disk.Read(told.Store.Start, 1)
		h, err := head.Decode(data)
		if !b.snap(4).invalid || !h.Invalid || err != api.OK || l.Super != x.super() {
			t.Errorf("of %v: %v, %d", x, h, err)
		}
		raw, _ := b.disk.Read(firstSlot+3, 1)
		if s, err := slot.Decode(raw); s != told || err != api.OK {
			t.Errorf("of %v: %v, %d, want %v", x, s, err, told)
		}
	}
}
