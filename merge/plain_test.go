package merge

import (
	"fmt"
	"math"
	"slices"
	"strconv"
	"strings"
	"testing"

	"oakum/api"
	"oakum/disk"
	"oakum/head"
	"oakum/page"
	"oakum/slot"
	"oakum/snap"
	"oakum/store"
)

const (
	sectorSize  = 64
	pageEntries = 13
	mostOfRun   = 8
	slotCount   = 16
	firstSlot   = 1
	firstOrigin = 17 // the superblock's sector, and 16 slots', stand ahead of it
)

// site is how a disk is parted.
type site struct {
	sectors, origin, chunk int
}

// even has four chunks, all full.
func even() site { return site{120, 8, 2} }

// cut has four chunks, of which the last one has one sector of two.
func cut() site { return site{120, 7, 2} }

// single has twenty chunks of one sector, more than a page tells of.
func single() site { return site{200, 20, 1} }

// wide has three chunks, of which the last one has three sectors of four.
func wide() site { return site{160, 11, 4} }

// only has one chunk, of three sectors of five.
func only() site { return site{80, 3, 5} }

// long has nine chunks of three sectors, the last one of one.
func long() site { return site{250, 25, 3} }

func sites() []site { return []site{even(), cut(), single(), wide(), only(), long(), {40, 1, 1}} }

func (x site) super() api.Super {
	return api.Super{Sectors: x.sectors, Origin: x.origin, Chunk: x.chunk}
}

// stores is where they have room.
func (x site) stores() api.Extent {
	return api.Extent{Start: firstOrigin + x.origin, Len: x.sectors - firstOrigin - x.origin}
}

// chunks is how many the origin has, counted up one by one.
func (x site) chunks() int {
	n := 0
	for at := 0; at < x.origin; at += x.chunk {
		n++
	}
	return n
}

// pages is how many n chunks need.
func pages(n int) int {
	pages := 0
	for told := 0; told < n; told += pageEntries {
		pages++
	}
	return pages
}

// size is how many sectors a store with room for n chunks has.
func (x site) size(n int) int { return 1 + pages(n) + n*x.chunk }

// room is how many chunks a store of so many sectors has room for.
func (x site) room(sectors int) int {
	n := 0
	for x.size(n+1) <= sectors {
		n++
	}
	return n
}

// formatted is a disk with some sectors behind the layout's, on which no other sector is as another one, or anything's.
func (x site) formatted(t testing.TB) *disk.Disk {
	t.Helper()
	var b strings.Builder
	for i := range x.sectors + 3 {
		b.WriteString(sectorOf("junk", i))
	}
	d := disk.Load(b.String())
	if err := snap.Format(d, x.super()); err != api.OK {
		t.Fatalf("Format of %v: %d", x, err)
	}
	return d
}

func mustOpen(t testing.TB, d *disk.Disk) *snap.Engine {
	t.Helper()
	e, err := snap.Open(d)
	if err != api.OK || e == nil {
		t.Fatalf("Open = %v, %d", e, err)
	}
	return e
}

// sectorOf is a sector's bytes, which tell what they are.
func sectorOf(name string, numbers ...int) string {
	for _, n := range numbers {
		name += " " + strconv.Itoa(n)
	}
	return name + strings.Repeat(".", sectorSize-len(name))
}

// sectorsOf is so many sectors, each another one.
func sectorsOf(name string, n int) string {
	var b strings.Builder
	for i := range n {
		b.WriteString(sectorOf(name, i))
	}
	return b.String()
}

// edges are numbers that calls are asked with, whatever their argument means.
func edges() []int {
	return []int{
		math.MinInt, math.MinInt + 1, math.MinInt32, -1 << 32, -1<<32 + 1, -17, -16, -2, -1, 0, 1, 2, 3, 4, 5, 6, 7, 8, 9,
		15, 16, 17, 18, 127, 128, 255, 256, 257, 1048576, math.MaxInt32, 1 << 32, 1<<32 + 1, 1<<32 + 2, 1 << 62, math.MaxInt - 1, math.MaxInt,
	}
}

// thing is what is done on a disk: the write of a sector, or, of flush, a flush.
type thing struct {
	sector int
	data   string
}

var flush = thing{sector: -1}

// do is one done; the disk's error.
func (th thing) do(d *disk.Disk) api.Errno {
	if th == flush {
		return d.Flush()
	}
	return d.Write(th.sector, th.data)
}

// written are the things of a write of whole sectors.
func written(sector int, data string) []thing {
	var l []thing
	for i := range len(data) / sectorSize {
		l = append(l, thing{sector + i, data[i*sectorSize:][:sectorSize]})
	}
	return l
}

// snapshot is one by the words of snap's chapter.
type snapshot struct {
	at      api.Extent
	gen     uint32
	merging bool
	invalid bool
	places  []int // of each place its chunk, -1: none
	bytes   []string
}

func (s *snapshot) clone() *snapshot {
	if s == nil {
		return nil
	}
	c := *s
	c.places, c.bytes = slices.Clone(s.places), slices.Clone(s.bytes)
	return &c
}

func (s *snapshot) place(chunk int) int {
	if s == nil {
		return -1
	}
	return slices.Index(s.places, chunk)
}

func (s *snapshot) left() int {
	n := 0
	for _, chunk := range s.places {
		if chunk == -1 && !s.invalid {
			n++
		}
	}
	return n
}

// chunks are those with exceptions, rising.
func (s *snapshot) chunks() []int {
	if s == nil {
		return nil
	}
	return slices.DeleteFunc(slices.Sorted(slices.Values(s.places)), func(c int) bool { return c == -1 })
}

// run are the chunks that a Step moves: the first one, and those behind it, each one more, so many at most.
func (s *snapshot) run() []int {
	all := s.chunks()
	n := 0
	for n < len(all) && n < mostOfRun && all[n] == all[0]+n {
		n++
	}
	return all[:n]
}

func (s *snapshot) slot() api.Slot {
	x := api.Slot{State: api.Used, Store: s.at, Gen: s.gen}
	if s.merging {
		x.State = api.Merging
	}
	return x
}

// plain is an engine, and its merges, by the chapters' words, on a disk that isn't dead.
type plain struct {
	site
	stands []string    // of each of the origin's sectors what stands there
	snaps  []*snapshot // by slots; nil of one that is Free
	gens   []uint32    // of the slots
}

// plain is one without snapshots.
func (x site) plain(d *disk.Disk) *plain {
	p := &plain{site: x, snaps: make([]*snapshot, slotCount), gens: make([]uint32, slotCount)}
	for i := range x.origin {
		s, _ := d.Read(firstOrigin+i, 1)
		p.stands = append(p.stands, s)
	}
	return p
}

func (p *plain) clone() *plain {
	q := &plain{site: p.site, stands: slices.Clone(p.stands), gens: slices.Clone(p.gens)}
	for _, s := range p.snaps {
		q.snaps = append(q.snaps, s.clone())
	}
	return q
}

// snap is a snapshot by its ID; nil, if there is none.
func (p *plain) snap(id int) *snapshot {
	if id < 1 || id > slotCount {
		return nil
	}
	return p.snaps[id-1]
}

func (p *plain) merging() int {
	for i, s := range p.snaps {
		if s != nil && s.merging {
			return i + 1
		}
	}
	return 0
}

// exceptions are how many the snapshot that is Merging has.
func (p *plain) exceptions() int { return len(p.snap(p.merging()).chunks()) }

// opens tells whether what stands on the disk can be opened.
func (p *plain) opens() bool {
	s := p.snap(p.merging())
	return s == nil || !s.invalid
}

// free are the sectors that no store has.
func (p *plain) free() map[int]bool {
	free := map[int]bool{}
	for i := range p.stores().Len {
		free[p.stores().Start+i] = true
	}
	for _, s := range p.snaps {
		if s != nil {
			for i := range s.at.Len {
				delete(free, s.at.Start+i)
			}
		}
	}
	return free
}

// fit is the first sector from which so many are free, one behind the other; -1, if there is none.
func (p *plain) fit(n int) int {
	free, run := p.free(), 0
	for sector := range p.sectors {
		run++
		if !free[sector] {
			run = 0
		}
		if run == n {
			return sector - n + 1
		}
	}
	return -1
}

// mark lets a slot be of a state: its write, and a flush.
func (p *plain) mark(id int, state api.State) []thing {
	x := api.Slot{Gen: p.gens[id-1]}
	p.snaps[id-1].merging = state == api.Merging
	if state == api.Free {
		p.snaps[id-1] = nil
	} else {
		x = p.snaps[id-1].slot()
	}
	data, _ := slot.Encode(x)
	return []thing{{firstSlot + id - 1, data}, flush}
}

// headThing is the write of a store's head.
func (p *plain) headThing(s *snapshot) thing {
	data, _ := head.Encode(api.Head{Gen: s.gen, Chunk: p.chunk, Cap: len(s.places), Invalid: s.invalid})
	return thing{s.at.Start, data}
}

// pageThing is the write of a store's page.
func (p *plain) pageThing(s *snapshot, i int) thing {
	numbers := slices.Repeat([]int{-1}, pageEntries)
	copy(numbers, s.places[i*pageEntries:])
	data, _ := page.Encode(s.gen, numbers...)
	return thing{s.at.Start + 1 + i, data}
}

// chunkSector is the first sector of a store's place.
func (p *plain) chunkSector(s *snapshot, place int) int {
	return s.at.Start + 1 + pages(len(s.places)) + place*p.chunk
}

// chunkBytes are those of a chunk that stand on the disk, with 0 behind them up to a full one's size.
func (p *plain) chunkBytes(c int) string {
	var b strings.Builder
	for i := c * p.chunk; i < p.origin && i < (c+1)*p.chunk; i++ {
		b.WriteString(p.stands[i])
	}
	return b.String() + strings.Repeat("\x00", p.chunk*sectorSize-b.Len())
}

// add are the things of one more exception.
func (p *plain) add(s *snapshot, c int, data string) []thing {
	place := slices.Index(s.places, -1)
	s.places[place], s.bytes[place] = c, data
	things := append(written(p.chunkSector(s, place), data), flush)
	return append(things, p.pageThing(s, place/pageEntries), flush)
}

// spoil are the things of a snapshot that gets invalid.
func (p *plain) spoil(s *snapshot) []thing {
	s.invalid = true
	for place := range s.places {
		s.places[place], s.bytes[place] = -1, ""
	}
	return []thing{p.headThing(s), flush}
}

// spliced is bytes of which those of some sectors, from one on, are others.
func spliced(old string, from int, data string) string {
	return old[:from*sectorSize] + data + old[from*sectorSize+len(data):]
}

// change are the things of the change of some sectors of an exception.
func (p *plain) change(s *snapshot, c, from int, data string) []thing {
	place := s.place(c)
	s.bytes[place] = spliced(s.bytes[place], from, data)
	return written(p.chunkSector(s, place)+from, data)
}

// save are the things by which a chunk is saved.
func (p *plain) save(c int) []thing {
	var things []thing
	for _, s := range p.snaps {
		switch {
		case s == nil || s.merging || s.invalid || s.place(c) != -1:
		case s.left() > 0:
			things = append(things, p.add(s, c, p.chunkBytes(c))...)
		default:
			things = append(things, p.spoil(s)...)
		}
	}
	return things
}

// stand are the things by which sectors of the origin are others.
func (p *plain) stand(at int, data string) []thing {
	things := written(firstOrigin+at, data)
	for i, th := range things {
		p.stands[at+i] = th.data
	}
	return things
}

// refuses tells why a snapshot, or the origin, can't be read and written.
func (p *plain) refuses(id int) api.Errno {
	switch s := p.snap(id); {
	case id == 0:
		return api.OK
	case s == nil:
		return api.ErrNone
	case s.merging:
		return api.ErrBusy
	case s.invalid:
		return api.ErrInvalid
	}
	return api.OK
}

// sector is what is read of one.
func (p *plain) sector(id, at int) string {
	if id == 0 {
		id = p.merging()
	}
	s, c := p.snap(id), at/p.chunk
	if place := s.place(c); place != -1 {
		return s.bytes[place][at%p.chunk*sectorSize:][:sectorSize]
	}
	return p.stands[at]
}

// reads is what is read of all sectors.
func (p *plain) reads(id int) (string, api.Errno) {
	if err := p.refuses(id); err != api.OK {
		return "", err
	}
	var b strings.Builder
	for at := range p.origin {
		b.WriteString(p.sector(id, at))
	}
	return b.String(), api.OK
}

// write is of whole sectors that are all there.
func (p *plain) write(id, at int, data string) ([]thing, api.Errno) {
	if err := p.refuses(id); err != api.OK {
		return nil, err
	}
	var things []thing
	for first := 0; first < len(data)/sectorSize; {
		from := (at + first) % p.chunk
		last := min(first+p.chunk-from, len(data)/sectorSize)
		more, err := p.writePiece(id, (at+first)/p.chunk, from, data[first*sectorSize:last*sectorSize])
		things = append(things, more...)
		if err != api.OK {
			return things, err
		}
		first = last
	}
	return append(things, flush), api.OK
}

func (p *plain) writePiece(id, c, from int, data string) ([]thing, api.Errno) {
	s := p.snap(id)
	if id == 0 {
		s = p.snap(p.merging())
	}
	switch {
	case s.place(c) != -1:
		return p.change(s, c, from, data), api.OK
	case id == 0:
		things := p.save(c)
		return append(things, p.stand(c*p.chunk+from, data)...), api.OK
	case s.left() == 0:
		return p.spoil(s), api.ErrInvalid
	}
	return p.add(s, c, spliced(p.chunkBytes(c), from, data)), api.OK
}

func (p *plain) create(chunks int) (int, api.Errno) {
	i := slices.Index(p.snaps, nil)
	switch {
	case p.merging() != 0:
		return 0, api.ErrBusy
	case i == -1:
		return 0, api.ErrFull
	case chunks < 1:
		return 0, api.ErrRange
	case p.fit(p.size(chunks)) == -1:
		return 0, api.ErrSpace
	}
	s := &snapshot{at: api.Extent{Start: p.fit(p.size(chunks)), Len: p.size(chunks)}, gen: slices.Max(p.gens) + 1}
	s.places, s.bytes = slices.Repeat([]int{-1}, chunks), make([]string, chunks)
	p.snaps[i], p.gens[i] = s, s.gen
	return i + 1, api.OK
}

// begin is what M1 says of Begin.
func (p *plain) begin(id int) ([]thing, api.Errno) {
	switch s := p.snap(id); {
	case p.merging() != 0:
		return nil, api.ErrBusy
	case s == nil:
		return nil, api.ErrNone
	case s.invalid:
		return nil, api.ErrInvalid
	}
	things := p.mark(id, api.Merging)
	return append(things, p.finish()...), api.OK
}

// step is what M1 says of Step.
func (p *plain) step() ([]thing, int, api.Errno) {
	s := p.snap(p.merging())
	if s == nil {
		return nil, 0, api.ErrIdle
	}
	var things []thing
	run := s.run()
	for _, c := range run {
		if c < p.chunks() {
			things = append(things, p.save(c)...)
		}
	}
	for _, c := range run {
		if first := c * p.chunk; c < p.chunks() {
			sectors := min(p.chunk, p.origin-first)
			things = append(things, p.stand(first, s.bytes[s.place(c)][:sectors*sectorSize])...)
		}
	}
	things = append(things, flush)
	things = append(things, p.remove(s, run)...)
	things = append(things, p.finish()...)
	return things, p.exceptions(), api.OK
}

// remove are the things by which exceptions are no more.
func (p *plain) remove(s *snapshot, chunks []int) []thing {
	var things []thing
	changed := map[int]bool{}
	for _, c := range chunks {
		place := s.place(c)
		changed[place/pageEntries] = true
		s.places[place], s.bytes[place] = -1, ""
	}
	for i := range pages(len(s.places)) {
		if changed[i] {
			things = append(things, p.pageThing(s, i))
		}
	}
	if len(things) > 0 {
		things = append(things, flush)
	}
	return things
}

// finish is what M1 says of Finish.
func (p *plain) finish() []thing {
	if p.merging() == 0 || p.exceptions() > 0 {
		return nil
	}
	return p.mark(p.merging(), api.Free)
}

// call is one of those that do something on the disk.
type call struct {
	op    string // begin, step, finish; of snap: create, mark, delete, write
	id    int
	at    int // a sector, or how many chunks
	state api.State
	data  string
}

func beginning(id int) call                  { return call{op: "begin", id: id} }
func stepping() call                         { return call{op: "step"} }
func finishing() call                        { return call{op: "finish"} }
func creating(chunks int) call               { return call{op: "create", at: chunks} }
func marking(id int, s api.State) call       { return call{op: "mark", id: id, state: s} }
func deleting(id int) call                   { return call{op: "delete", id: id} }
func writing(id, at int, data string) call   { return call{op: "write", id: id, at: at, data: data} }
func (x site) filling(id int, n string) call { return writing(id, 0, sectorsOf(n, x.origin)) }

// touching are writes of one sector of each of some chunks, in their order.
func (x site) touching(id int, name string, chunks ...int) []call {
	var l []call
	for _, c := range chunks {
		l = append(l, writing(id, c*x.chunk, sectorOf(name, c)))
	}
	return l
}

// String is short: of bytes it tells how many they are.
func (c call) String() string {
	return fmt.Sprint(c.op, " ", c.id, " ", c.at, " ", int(c.state), " ", len(c.data))
}

// on is the number that is told, and the error.
func (c call) on(e *snap.Engine) (int, api.Errno) {
	switch c.op {
	case "begin":
		return 0, Begin(e, c.id)
	case "step":
		return Step(e)
	case "finish":
		return 0, Finish(e)
	case "create":
		return e.Create(c.at)
	case "mark":
		return 0, e.Mark(c.id, c.state)
	case "delete":
		return 0, e.Delete(c.id)
	}
	return 0, e.Write(c.id, c.at, c.data)
}

// onPlain is what it tells, and, of this chapter's calls, what it does on the disk, thing by thing.
func (c call) onPlain(p *plain) (things []thing, n int, err api.Errno) {
	switch s := p.snap(c.id); {
	case c.op == "begin":
		things, err = p.begin(c.id)
	case c.op == "step":
		things, n, err = p.step()
	case c.op == "finish":
		things = p.finish()
	case c.op == "create":
		n, err = p.create(c.at)
	case c.op == "write":
		things, err = p.write(c.id, c.at, c.data)
	case s == nil:
		err = api.ErrNone
	case c.op == "delete" && s.merging, c.state == api.Merging && p.merging() != 0 && p.merging() != c.id:
		err = api.ErrBusy
	default:
		things = p.mark(c.id, c.state)
	}
	return things, n, err
}

// ids are those of all snapshots, rising.
func (p *plain) ids() []int {
	var l []int
	for i, s := range p.snaps {
		if s != nil {
			l = append(l, i+1)
		}
	}
	return l
}

// checkEngine holds all that an engine tells of itself, and of its merge, against a plain one.
func checkEngine(t testing.TB, e *snap.Engine, p *plain) {
	t.Helper()
	if !slices.Equal(e.IDs(), p.ids()) || e.Merging() != p.merging() || e.Free() != len(p.free()) {
		t.Fatalf("of %v: IDs %v, merging %d, free %d, want %v, %d, %d", p.site, e.IDs(), e.Merging(), e.Free(), p.ids(), p.merging(), len(p.free()))
	}
	if Left(e) != p.exceptions() {
		t.Fatalf("of %v: %d left, want %d", p.site, Left(e), p.exceptions())
	}
	for _, id := range p.ids() {
		if x, err := e.Slot(id); x != p.snap(id).slot() || err != api.OK {
			t.Fatalf("Slot(%d) of %v = %v, %d, want %v", id, p.site, x, err, p.snap(id).slot())
		}
		checkStore(t, e.Store(id), p.snap(id))
	}
	for id := range slotCount + 1 {
		want, wantErr := p.reads(id)
		if got, err := e.Read(id, 0, p.origin); got != want || err != wantErr {
			t.Fatalf("%d of %v reads %q, %d, want %q, %d", id, p.site, got, err, want, wantErr)
		}
	}
	if s, err := e.Origin().Read(0, p.origin); s != strings.Join(p.stands, "") || err != api.OK {
		t.Fatalf("of %v: %q of the origin, %d, want %q", p.site, s, err, p.stands)
	}
}

func checkStore(t testing.TB, kept *store.Store, s *snapshot) {
	t.Helper()
	var want []api.Entry
	for _, c := range s.chunks() {
		want = append(want, api.Entry{Origin: c, Index: s.place(c)})
	}
	if kept.Invalid() != s.invalid || kept.Left() != s.left() || !slices.Equal(kept.All(), want) {
		t.Fatalf("invalid %t, %d left, %v, want %t, %d, %v", kept.Invalid(), kept.Left(), kept.All(), s.invalid, s.left(), want)
	}
	for _, x := range want {
		data := s.bytes[x.Index]
		if got, err := kept.Read(x.Origin, 0, len(data)/sectorSize); got != data || err != api.OK {
			t.Fatalf("exception %v is %q, %d, want %q", x, got, err, data)
		}
	}
}

// checkDisks holds two disks against each other: what stands, and each of the pending writes.
func checkDisks(t testing.TB, got, want *disk.Disk) {
	t.Helper()
	checkPending(t, got, want, -1)
	for i := range want.Pending() {
		checkPending(t, got, want, i)
	}
}

// checkPending holds two disks against each other: what stands, how many writes are pending, and one of these.
func checkPending(t testing.TB, got, want *disk.Disk, i int) {
	t.Helper()
	if got.Pending() != want.Pending() || got.Dead() != want.Dead() || got.Bytes() != want.Bytes() {
		t.Fatalf("%d pending, dead %t, want %d, %t; the same stands: %t", got.Pending(), got.Dead(), want.Pending(), want.Dead(), got.Bytes() == want.Bytes())
	}
	if i < 0 {
		return
	}
	keep := make([]bool, i+1)
	keep[i] = true
	a, b := got.Clone(), want.Clone()
	a.Restart(keep...)
	b.Restart(keep...)
	if a.Bytes() != b.Bytes() {
		t.Fatalf("pending write %d is another one", i)
	}
}

// checkThings holds what is done on a disk against things, in their order, one by one: the power fails at each of them, and
// behind the last one; told is what is told then. With each fuse only the newest pending write is looked at: a smaller one
// showed the others.
func checkThings(t testing.TB, before *disk.Disk, do func(*disk.Disk, int) api.Errno, things []thing, told api.Errno) {
	t.Helper()
	for fuse := 0; fuse <= len(things); fuse++ {
		want, wantErr := before.Clone(), told
		want.Fail(fuse)
		for _, th := range things {
			if err := th.do(want); err != api.OK {
				wantErr = err
				break
			}
		}
		got := before.Clone()
		if err := do(got, fuse); err != wantErr {
			t.Fatalf("fuse %d of %d: %d, want %d", fuse, len(things), err, wantErr)
		}
		checkPending(t, got, want, want.Pending()-1)
	}
}

// bench is an engine, and a plain one with the same calls behind it.
type bench struct {
	*plain
	disk   *disk.Disk
	engine *snap.Engine
}

// bench is one without snapshots, or with those that calls make.
func (x site) bench(t testing.TB, calls ...call) *bench {
	t.Helper()
	d := x.formatted(t)
	b := &bench{plain: x.plain(d), disk: d, engine: mustOpen(t, d)}
	b.mustDo(t, calls...)
	return b
}

// mustDo does calls on both that tell no error.
func (b *bench) mustDo(t testing.TB, calls ...call) {
	t.Helper()
	for _, c := range calls {
		if _, err := b.tells(t, c); err != api.OK {
			t.Fatalf("%v of %v = %d", c, b.site, err)
		}
	}
}

// tells does a call on both, and holds against each other what is told.
func (b *bench) tells(t testing.TB, c call) ([]thing, api.Errno) {
	t.Helper()
	things, want, wantErr := c.onPlain(b.plain)
	if n, err := c.on(b.engine); n != want || err != wantErr {
		t.Fatalf("%v of %v = %d, %d, want %d, %d", c, b.site, n, err, want, wantErr)
	}
	return things, wantErr
}

// do does one of this chapter's calls on both, and holds against each other what is told, what is done on the disk, thing by
// thing, and what the engine is then: this one, and the one that is opened.
func (b *bench) do(t testing.TB, c call) {
	t.Helper()
	before, opens := b.disk.Clone(), b.opens()
	things, told := b.tells(t, c)
	b.check(t)
	if opens {
		again := func(d *disk.Disk, fuse int) api.Errno {
			e := mustOpen(t, d)
			d.Fail(fuse)
			_, err := c.on(e)
			return err
		}
		checkThings(t, before, again, things, told)
	}
}

func (b *bench) check(t testing.TB) {
	t.Helper()
	checkEngine(t, b.engine, b.plain)
	if b.opens() {
		checkEngine(t, mustOpen(t, b.disk), b.plain)
	}
}

// refuse holds that a call tells an error ahead of all that it could do on the disk, also on a dead one.
func (b *bench) refuse(t testing.TB, c call, want api.Errno) {
	t.Helper()
	if _, _, err := c.onPlain(b.plain.clone()); err != want {
		t.Fatalf("%v of a plain one of %v = %d, want %d", c, b.site, err, want)
	}
	b.quiet(t, c, want)
}

// quiet holds that a call tells this, no number, and does nothing on the disk, also on a dead one.
func (b *bench) quiet(t testing.TB, c call, want api.Errno) {
	t.Helper()
	before := b.disk.Clone()
	b.disk.Fail(0)
	if n, err := c.on(b.engine); n != 0 || err != want {
		t.Fatalf("%v of %v = %d, %d, want %d", c, b.site, n, err, want)
	}
	if b.disk.Dead() {
		t.Fatalf("%v of %v does something on the disk", c, b.site)
	}
	b.disk.Fail(-1)
	checkDisks(t, b.disk, before)
	b.check(t)
	if !b.opens() {
		return
	}
	e := mustOpen(t, before)
	die(before)
	if n, err := c.on(e); n != 0 || err != want {
		t.Fatalf("%v of %v on a dead disk = %d, %d, want %d", c, b.site, n, err, want)
	}
}

// die lets a disk be dead; what is pending stays so.
func die(d *disk.Disk) {
	d.Fail(0)
	d.Flush()
}
