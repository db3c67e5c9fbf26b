package status

import (
	"fmt"
	"reflect"
	"slices"
	"strconv"
	"strings"
	"testing"

	"oakum/api"
	"oakum/check"
	"oakum/disk"
	"oakum/geom"
	"oakum/snap"
	"oakum/volume"
)

const (
	sectorSize  = 64
	pageEntries = 13
	mostOfRun   = 8
	slotCount   = 16
	diskEnd     = 1 << 20
	chunkEnd    = 128
	firstOrigin = 17 // the superblock's sector, and 16 slots', stand ahead of it
)

// site is how a disk is parted.
type site struct {
	sectors, origin, chunk int
}

// even has four chunks, all full.
func even() site { return site{120, 8, 2} }

// cut has four chunks, of which the last one has one sector of two.
func cut() site { return site{120, 7, 2} }

// single has twenty chunks of one sector, more than a page tells of.
func single() site { return site{200, 20, 1} }

// wide has three chunks, of which the last one has three sectors of four.
func wide() site { return site{160, 11, 4} }

// only has one chunk, of three sectors of five.
func only() site { return site{80, 3, 5} }

// small has room for sixteen snapshots.
func small() site { return site{100, 4, 1} }

func sites() []site { return []site{even(), cut(), single(), wide(), only(), small()} }

func (x site) super() api.Super {
	return api.Super{Sectors: x.sectors, Origin: x.origin, Chunk: x.chunk}
}

func (x site) geom() geom.Geom { return geom.Geom{Origin: x.origin, Chunk: x.chunk} }

// chunks is how many the origin has, counted up one by one.
func (x site) chunks() int {
	n := 0
	for at := 0; at < x.origin; at += x.chunk {
		n++
	}
	return n
}

// size is how many sectors a store with room for n chunks has.
func (x site) size(n int) int {
	pages := 0
	for told := 0; told < n; told += pageEntries {
		pages++
	}
	return 1 + pages + n*x.chunk
}

// sectorOf is a sector's bytes, which tell what they are.
func sectorOf(name string, numbers ...int) string {
	for _, n := range numbers {
		name += " " + strconv.Itoa(n)
	}
	return name + strings.Repeat(".", sectorSize-len(name))
}

// sectorsOf is so many sectors, each another one.
func sectorsOf(name string, n int) string {
	var b strings.Builder
	for i := range n {
		b.WriteString(sectorOf(name, i))
	}
	return b.String()
}

func writing(id, at int, data string) api.Command {
	return api.Command{Op: "write", ID: id, At: at, Data: data}
}
func creating(chunks int) api.Command { return api.Command{Op: "create", N: chunks} }
func deleting(id int) api.Command     { return api.Command{Op: "delete", ID: id} }
func merging(id int) api.Command      { return api.Command{Op: "merge", ID: id} }
func stepping() api.Command           { return api.Command{Op: "step"} }

// touching is a write of one sector of a chunk.
func (x site) touching(id, chunk int) api.Command {
	return writing(id, chunk*x.chunk, sectorOf("t", id, chunk))
}

// short is what tells of a command.
func short(c api.Command) string {
	return fmt.Sprintf("%s %d %d %d (%d bytes)", c.Op, c.ID, c.At, c.N, len(c.Data))
}

// numbers are from a fixed rule.
type numbers uint64

func (r *numbers) below(n int) int {
	x := uint64(*r)
	x ^= x << 13
	x ^= x >> 7
	x ^= x << 17
	*r = numbers(x)
	return int(x>>20) % n
}

// anyCommand is one, that is refused more or less often.
func (x site) anyCommand(r *numbers) api.Command {
	id := r.below(7)
	switch r.below(24) {
	case 0, 1, 2:
		return creating(r.below(2*x.chunks()+3) - 1)
	case 3, 4:
		return deleting(id)
	case 5, 6:
		return merging(id)
	case 7, 8, 9:
		return stepping()
	case 10, 11, 12:
		id = 0
	}
	at := r.below(x.origin)
	return writing(id, at, sectorsOf(fmt.Sprint("w", r.below(10000)), r.below(min(x.origin-at, 7)+1)))
}

// bench is a volume on a disk, and a plain one beside it.
type bench struct {
	*plain
	disk   *disk.Disk
	volume *volume.Volume
}

func (x site) bench(t testing.TB, l ...api.Command) *bench {
	t.Helper()
	d := disk.New(x.sectors)
	v, err := volume.Format(d, x.super())
	if err != api.OK {
		t.Fatalf("Format of %v = %d", x, err)
	}
	b := &bench{&plain{site: x}, d, v}
	b.mustDo(t, l...)
	return b
}

// mustDo does commands that tell no error.
func (b *bench) mustDo(t testing.TB, l ...api.Command) {
	t.Helper()
	for _, c := range l {
		if err := b.do(c); err != api.OK {
			t.Fatalf("%s of %v = %d", short(c), b.site, err)
		}
	}
}

// do does a command, on both.
func (b *bench) do(c api.Command) api.Errno {
	r, err := b.volume.Do(c)
	b.did(c, r, err)
	return err
}

// check holds what is told of the engine against the plain one, also when the disk is opened again.
func (b *bench) check(t testing.TB) {
	t.Helper()
	checkStatus(t, b.volume.Engine(), b.status())
	checkStatus(t, mustOpen(t, b.disk.Clone()), b.status())
}

func mustOpen(t testing.TB, d *disk.Disk) *snap.Engine {
	t.Helper()
	e, err := snap.Open(d)
	if err != api.OK {
		t.Fatalf("the disk can't be opened: %d", err)
	}
	return e
}

// same tells whether a status is another one; no lines may be nil or not.
func same(a, b Status) bool {
	return a.Free == b.Free && a.Left == b.Left && slices.Equal(a.Lines, b.Lines)
}

func checkStatus(t testing.TB, e *snap.Engine, want Status) {
	t.Helper()
	got, err := Of(e)
	if !same(got, want) || err != api.OK {
		t.Fatalf("Of = %+v, %d, want %+v", got, err, want)
	}
}

// checkTells holds what is told of an engine against lines that are written out.
func (b *bench) checkTells(t testing.TB, free, left int, lines ...Line) {
	t.Helper()
	want := Status{Free: free, Left: left, Lines: lines}
	if !same(b.status(), want) {
		t.Fatalf("the plain one tells %+v, want %+v", b.status(), want)
	}
	b.check(t)
}

// stored is what a plain volume keeps of a snapshot.
type stored struct {
	room             int
	chunks           map[int]bool // of which it has exceptions
	merging, invalid bool
}

// need lets it need a place for a chunk.
func (s *stored) need(c int) {
	switch {
	case s == nil || s.invalid || s.merging || s.chunks[c]:
	case len(s.chunks) == s.room:
		s.invalid, s.chunks = true, nil
	default:
		s.chunks[c] = true
	}
}

// plain is a volume that keeps which chunks needed places. A snapshot stands at its ID.
type plain struct {
	site
	snaps [slotCount + 1]*stored
}

// did takes over what a command did.
func (p *plain) did(c api.Command, r api.Reply, err api.Errno) {
	if err != api.OK && !(c.Op == "write" && err == api.ErrInvalid) {
		return
	}
	switch c.Op {
	case "create":
		p.snaps[r.N[0]] = &stored{room: c.N, chunks: map[int]bool{}}
	case "delete":
		p.snaps[c.ID] = nil
	case "merge":
		p.snaps[c.ID].merging = true
		p.finish()
	case "step":
		p.step()
		p.finish()
	case "write":
		for i := range len(c.Data) / sectorSize {
			p.wrote(c.ID, (c.At+i)/p.chunk)
		}
	}
}

// merged is the ID of the snapshot that is Merging; 0, if none is.
func (p *plain) merged() int {
	return max(0, slices.IndexFunc(p.snaps[:], func(s *stored) bool { return s != nil && s.merging }))
}

func (p *plain) finish() {
	if id := p.merged(); id != 0 && len(p.snaps[id].chunks) == 0 {
		p.snaps[id] = nil
	}
}

// step lets the first chunks, side by side, eight at most, be moved.
func (p *plain) step() {
	left := p.snaps[p.merged()].chunks
	first := 0
	for !left[first] {
		first++
	}
	for c := first; left[c] && c < first+mostOfRun; c++ {
		p.saved(c)
		delete(left, c)
	}
}

// saved lets all snapshots need a place for a chunk.
func (p *plain) saved(c int) {
	for _, s := range p.snaps {
		s.need(c)
	}
}

func (p *plain) wrote(id, c int) {
	switch m := p.snaps[p.merged()]; {
	case id != 0:
		p.snaps[id].need(c)
	case m == nil || !m.chunks[c]:
		p.saved(c)
	}
}

// status is what is to be told of it.
func (p *plain) status() Status {
	s := Status{Free: p.sectors - firstOrigin - p.origin}
	for id, x := range p.snaps {
		if x == nil {
			continue
		}
		s.Free -= p.size(x.room)
		line := Line{ID: id, Merging: x.merging, Invalid: x.invalid, Room: x.room}
		if !x.invalid {
			line.Used, line.Left = len(x.chunks), x.room-len(x.chunks)
			line.Share = percent(line.Used, x.room)
		}
		if x.merging {
			s.Left = len(x.chunks)
		}
		s.Lines = append(s.Lines, line)
	}
	return s
}

// percent is the greatest whole number of hundredths of a room that is not above what is used, counted up one by one.
func percent(used, room int) int64 {
	n := int64(0)
	for (n+1)*int64(room) <= 100*int64(used) {
		n++
	}
	return n
}

// standing is what is to be told of the engine of a disk, by a look at what stands there.
func (x site) standing(t testing.TB, d *disk.Disk) Status {
	t.Helper()
	report, at, err := check.Bytes(d.Bytes())
	if err != api.OK {
		t.Fatalf("sector %d is wrong: %d", at, err)
	}
	s := Status{Free: x.sectors - firstOrigin - x.origin}
	for _, l := range report.Lines {
		s.Free -= l.Slot.Store.Len
		line := Line{ID: l.ID, Merging: l.Slot.State == api.Merging, Invalid: l.Invalid, Room: l.Room}
		if !l.Invalid {
			line.Used, line.Left = len(l.Entries), l.Room-len(l.Entries)
			line.Share = percent(line.Used, l.Room)
		}
		if line.Merging {
			s.Left = line.Used
		}
		s.Lines = append(s.Lines, line)
	}
	return s
}

// checkNothing holds that an answer beside an error has nothing.
func checkNothing(t testing.TB, s Status) {
	t.Helper()
	if !reflect.DeepEqual(s, Status{}) {
		t.Errorf("with an error %+v is told", s)
	}
}
