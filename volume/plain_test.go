package volume

import (
	"fmt"
	"math"
	"slices"
	"strconv"
	"strings"
	"testing"

	"oakum/api"
	"oakum/disk"
	"oakum/merge"
	"oakum/slot"
	"oakum/store"
)

const (
	sectorSize   = 64
	pageEntries  = 13
	mostOfRun    = 8
	slotCount    = 16
	diskEnd      = 1 << 20
	firstSlot    = 1
	firstOrigin  = 17 // the superblock's sector, and 16 slots', stand ahead of it
	formatThings = 19 // 16 slots, a flush, the superblock, a flush
)

// site is how a disk is parted.
type site struct {
	sectors, origin, chunk int
}

// even has four chunks, all full.
func even() site { return site{120, 8, 2} }

// cut has four chunks, of which the last one has one sector of two.
func cut() site { return site{120, 7, 2} }

// single has twenty chunks of one sector, more than a page tells of.
func single() site { return site{200, 20, 1} }

// wide has three chunks, of which the last one has three sectors of four.
func wide() site { return site{160, 11, 4} }

// only has one chunk, of three sectors of five.
func only() site { return site{80, 3, 5} }

// long has nine chunks of three sectors, the last one of one.
func long() site { return site{250, 25, 3} }

// small has room for sixteen snapshots.
func small() site { return site{100, 4, 1} }

func sites() []site { return []site{even(), cut(), single(), wide(), only(), long(), small()} }

func (x site) super() api.Super {
	return api.Super{Sectors: x.sectors, Origin: x.origin, Chunk: x.chunk}
}

// stores is where they have room.
func (x site) stores() api.Extent {
	return api.Extent{Start: firstOrigin + x.origin, Len: x.sectors - firstOrigin - x.origin}
}

// chunks is how many the origin has, counted up one by one.
func (x site) chunks() int {
	n := 0
	for at := 0; at < x.origin; at += x.chunk {
		n++
	}
	return n
}

// size is how many sectors a store with room for n chunks has.
func (x site) size(n int) int {
	pages := 0
	for told := 0; told < n; told += pageEntries {
		pages++
	}
	return 1 + pages + n*x.chunk
}

// room is how many chunks a store of so many sectors has room for.
func (x site) room(sectors int) int {
	n := 0
	for x.size(n+1) <= sectors {
		n++
	}
	return n
}

// junk is a disk with some sectors behind the layout's, on which no sector is as another one, or anything's.
func (x site) junk() *disk.Disk { return disk.Load(sectorsOf("junk", x.sectors+3)) }

// sectorOf is a sector's bytes, which tell what they are.
func sectorOf(name string, numbers ...int) string {
	for _, n := range numbers {
		name += " " + strconv.Itoa(n)
	}
	return name + strings.Repeat(".", sectorSize-len(name))
}

// sectorsOf is so many sectors, each another one.
func sectorsOf(name string, n int) string {
	var b strings.Builder
	for i := range n {
		b.WriteString(sectorOf(name, i))
	}
	return b.String()
}

// edges are numbers that commands are asked with, whatever they mean there.
func edges() []int {
	return []int{
		math.MinInt, math.MinInt + 1, math.MinInt32, -1 << 32, -1<<32 + 1, -17, -2, -1, 0, 1, 2, 3, 4, 5, 6, 7, 8, 9,
		15, 16, 17, 18, 127, 128, 255, 256, 257, 1 << 20, 1<<20 + 1, math.MaxInt32, 1 << 32, 1<<32 + 1, 1<<32 + 2, 1 << 62, math.MaxInt - 1, math.MaxInt,
	}
}

func reading(id, at, n int) api.Command { return api.Command{Op: "read", ID: id, At: at, N: n} }
func writing(id, at int, data string) api.Command {
	return api.Command{Op: "write", ID: id, At: at, Data: data}
}
func creating(chunks int) api.Command { return api.Command{Op: "create", N: chunks} }
func deleting(id int) api.Command     { return api.Command{Op: "delete", ID: id} }
func merging(id int) api.Command      { return api.Command{Op: "merge", ID: id} }
func stepping() api.Command           { return api.Command{Op: "step"} }

func (x site) filling(id int, name string) api.Command {
	return writing(id, 0, sectorsOf(name, x.origin))
}

// touching are writes of one sector of each of some chunks, in their order.
func (x site) touching(id int, name string, chunks ...int) []api.Command {
	var l []api.Command
	for _, c := range chunks {
		l = append(l, writing(id, c*x.chunk, sectorOf(name, c)))
	}
	return l
}

// short tells a command; of bytes it tells how many they are.
func short(c api.Command) string {
	return fmt.Sprint(c.Op, " ", c.ID, " ", c.At, " ", c.N, " ", len(c.Data))
}

// snapshot is one that keeps a copy of all that it reads, and knows of which chunks a place was needed.
type snapshot struct {
	at      api.Extent
	room    int
	reads   []string // none of one that is Merging: that is what the origin reads
	has     map[int]bool
	invalid bool
}

func (s *snapshot) clone() *snapshot {
	if s == nil {
		return nil
	}
	c := *s
	c.reads, c.has = slices.Clone(s.reads), map[int]bool{}
	for chunk := range s.has {
		c.has[chunk] = true
	}
	return &c
}

// chunks are those with exceptions, rising.
func (s *snapshot) chunks() []int {
	var l []int
	for c := range s.has {
		l = append(l, c)
	}
	slices.Sort(l)
	return l
}

// run are the chunks that a step moves: the first one, and those behind it, each one more, so many at most.
func (s *snapshot) run() []int {
	all := s.chunks()
	n := 0
	for n < len(all) && n < mostOfRun && all[n] == all[0]+n {
		n++
	}
	return all[:n]
}

// need lets a place be needed for a chunk; it tells whether there is one.
func (s *snapshot) need(c int) bool {
	switch {
	case s.invalid:
		return false
	case s.has[c]:
		return true
	case len(s.has) == s.room:
		s.invalid, s.has = true, map[int]bool{}
		return false
	}
	s.has[c] = true
	return true
}

// plain is a volume by the chapters' words that knows of no disk.
type plain struct {
	site
	reads   []string    // of the origin
	snaps   []*snapshot // by slots; nil of one that is Free
	merging int
}

// plain is one without snapshots, whose origin reads what stands on a disk.
func (x site) plain(d *disk.Disk) *plain {
	p := &plain{site: x, snaps: make([]*snapshot, slotCount)}
	for i := range x.origin {
		s, _ := d.Read(firstOrigin+i, 1)
		p.reads = append(p.reads, s)
	}
	return p
}

func (p *plain) clone() *plain {
	q := &plain{site: p.site, reads: slices.Clone(p.reads), merging: p.merging}
	for _, s := range p.snaps {
		q.snaps = append(q.snaps, s.clone())
	}
	return q
}

// snap is a snapshot by its ID; nil, if there is none.
func (p *plain) snap(id int) *snapshot {
	if id < 1 || id > slotCount {
		return nil
	}
	return p.snaps[id-1]
}

// ids are those of all snapshots, rising.
func (p *plain) ids() []int {
	var l []int
	for i, s := range p.snaps {
		if s != nil {
			l = append(l, i+1)
		}
	}
	return l
}

// left is how many exceptions the snapshot that is Merging has.
func (p *plain) left() int {
	if p.merging == 0 {
		return 0
	}
	return len(p.snap(p.merging).has)
}

// free are the sectors that no store has.
func (p *plain) free() map[int]bool {
	free := map[int]bool{}
	for i := range p.stores().Len {
		free[p.stores().Start+i] = true
	}
	for _, s := range p.snaps {
		if s != nil {
			for i := range s.at.Len {
				delete(free, s.at.Start+i)
			}
		}
	}
	return free
}

// fit is the first sector from which so many are free, one behind the other; -1, if there is none.
func (p *plain) fit(n int) int {
	free, run := p.free(), 0
	for sector := range p.sectors {
		run++
		if !free[sector] {
			run = 0
		}
		if run == n {
			return sector - n + 1
		}
	}
	return -1
}

// do is what the chapters say of a command.
func (p *plain) do(c api.Command) (api.Reply, api.Errno) {
	switch c.Op {
	case "read":
		return p.read(c)
	case "write":
		return api.Reply{}, p.write(c)
	case "create":
		return p.create(c.N)
	case "delete":
		return api.Reply{}, p.remove(c.ID)
	case "merge":
		return api.Reply{}, p.begin(c.ID)
	case "step":
		return p.step()
	}
	return api.Reply{}, api.ErrArg
}

// refuses tells why a snapshot, or the origin, can't be read and written.
func (p *plain) refuses(id int) api.Errno {
	switch s := p.snap(id); {
	case id == 0:
		return api.OK
	case s == nil:
		return api.ErrNone
	case p.merging == id:
		return api.ErrBusy
	case s.invalid:
		return api.ErrInvalid
	}
	return api.OK
}

// sectorsOf is what the origin, or a snapshot, reads.
func (p *plain) sectorsOf(id int) []string {
	if id == 0 {
		return p.reads
	}
	return p.snap(id).reads
}

// has tells whether n sectors, from one on, are all the origin's. Of none one behind the last one is its, too.
func (p *plain) has(at, n int) bool {
	return 0 <= at && at <= p.origin && 0 <= n && n <= p.origin && at+n <= p.origin
}

func (p *plain) read(c api.Command) (api.Reply, api.Errno) {
	if err := p.refuses(c.ID); err != api.OK {
		return api.Reply{}, err
	}
	if !p.has(c.At, c.N) {
		return api.Reply{}, api.ErrRange
	}
	return api.Reply{Data: strings.Join(p.sectorsOf(c.ID)[c.At:c.At+c.N], "")}, api.OK
}

func (p *plain) write(c api.Command) api.Errno {
	switch err := p.refuses(c.ID); {
	case err != api.OK:
		return err
	case len(c.Data)%sectorSize != 0:
		return api.ErrArg
	case !p.has(c.At, len(c.Data)/sectorSize):
		return api.ErrRange
	}
	for i := range len(c.Data) / sectorSize {
		at := c.At + i
		if c.ID == 0 {
			p.needOrigin(at / p.chunk)
		} else if !p.snap(c.ID).need(at / p.chunk) {
			return api.ErrInvalid
		}
		p.sectorsOf(c.ID)[at] = c.Data[i*sectorSize:][:sectorSize]
	}
	return api.OK
}

// needOrigin lets places be needed ahead of a write to a chunk of the origin. A chunk that is to be moved yet needs none.
func (p *plain) needOrigin(c int) {
	if p.merging == 0 || !p.snap(p.merging).has[c] {
		p.needAll(c)
	}
}

// needAll lets each snapshot, but that which is Merging, need a place for a chunk.
func (p *plain) needAll(c int) {
	for i, s := range p.snaps {
		if s != nil && i+1 != p.merging {
			s.need(c)
		}
	}
}

func (p *plain) create(chunks int) (api.Reply, api.Errno) {
	i := slices.Index(p.snaps, nil)
	switch {
	case p.merging != 0:
		return api.Reply{}, api.ErrBusy
	case i == -1:
		return api.Reply{}, api.ErrFull
	case chunks < 1 || chunks > diskEnd:
		return api.Reply{}, api.ErrRange
	case p.fit(p.size(chunks)) == -1:
		return api.Reply{}, api.ErrSpace
	}
	at := api.Extent{Start: p.fit(p.size(chunks)), Len: p.size(chunks)}
	p.snaps[i] = &snapshot{at: at, room: chunks, reads: slices.Clone(p.reads), has: map[int]bool{}}
	return api.Reply{N: []int{i + 1}}, api.OK
}

func (p *plain) remove(id int) api.Errno {
	switch {
	case p.snap(id) == nil:
		return api.ErrNone
	case p.merging == id:
		return api.ErrBusy
	}
	p.snaps[id-1] = nil
	return api.OK
}

func (p *plain) begin(id int) api.Errno {
	switch s := p.snap(id); {
	case p.merging != 0:
		return api.ErrBusy
	case s == nil:
		return api.ErrNone
	case s.invalid:
		return api.ErrInvalid
	}
	s := p.snap(id)
	p.reads, s.reads, p.merging = s.reads, nil, id
	p.finish()
	return api.OK
}

func (p *plain) step() (api.Reply, api.Errno) {
	if p.merging == 0 {
		return api.Reply{}, api.ErrIdle
	}
	s := p.snap(p.merging)
	for _, c := range s.run() {
		p.needAll(c)
	}
	for _, c := range s.run() {
		delete(s.has, c)
	}
	p.finish()
	return api.Reply{N: []int{p.left()}}, api.OK
}

// finish ends a merge without exceptions.
func (p *plain) finish() {
	if p.merging != 0 && p.left() == 0 {
		p.snaps[p.merging-1] = nil
		p.merging = 0
	}
}

// checkVolume holds all that a volume, and its engine, tells against a plain one.
func checkVolume(t testing.TB, v *Volume, p *plain) {
	t.Helper()
	e := v.Engine()
	if !slices.Equal(e.IDs(), p.ids()) || e.Merging() != p.merging || e.Free() != len(p.free()) || e.Super() != p.super() {
		t.Fatalf("of %v: %v, %v, merging %d, %d free, want %v, %d, %d", p.site, e.Super(), e.IDs(), e.Merging(), e.Free(), p.ids(), p.merging, len(p.free()))
	}
	if merge.Left(e) != p.left() {
		t.Fatalf("of %v: %d left, want %d", p.site, merge.Left(e), p.left())
	}
	for _, id := range p.ids() {
		checkStore(t, v, p, id)
	}
	for id := -1; id <= slotCount+1; id++ {
		tells(t, v, p, reading(id, 0, p.origin))
	}
}

func checkStore(t testing.TB, v *Volume, p *plain, id int) {
	t.Helper()
	s, kept := p.snap(id), v.Engine().Store(id)
	told, err := v.Engine().Slot(id)
	left := s.room - len(s.has)
	if s.invalid {
		left = 0
	}
	if told.Store != s.at || err != api.OK || kept.Invalid() != s.invalid || kept.Left() != left || !slices.Equal(chunksOf(kept), s.chunks()) {
		t.Fatalf("snapshot %d of %v: %v, %d, invalid %t, %d left, %v, want %v, %t, %d, %v", id, p.site, told, err, kept.Invalid(), kept.Left(), chunksOf(kept), s.at, s.invalid, left, s.chunks())
	}
}

// chunksOf are those of which a store has exceptions, rising.
func chunksOf(kept *store.Store) []int {
	var l []int
	for _, x := range kept.All() {
		l = append(l, x.Origin)
	}
	return l
}

func same(a, b api.Reply) bool { return a.Data == b.Data && slices.Equal(a.N, b.N) }

// tells does a command on both, and holds against each other what is told; the error.
func tells(t testing.TB, v *Volume, p *plain, c api.Command) api.Errno {
	t.Helper()
	want, wantErr := p.do(c)
	if got, err := v.Do(c); !same(got, want) || err != wantErr {
		t.Fatalf("%s of %v = %q, %v, %d, want %q, %v, %d", short(c), p.site, got.Data, got.N, err, want.Data, want.N, wantErr)
	}
	return wantErr
}

// bench is a volume, and a plain one with the same commands behind it.
type bench struct {
	*plain
	disk   *disk.Disk
	volume *Volume
}

// bench is one without snapshots, or with those that commands make.
func (x site) bench(t testing.TB, l ...api.Command) *bench {
	t.Helper()
	d := x.junk()
	v, err := Format(d, x.super())
	if v == nil || err != api.OK {
		t.Fatalf("Format of %v = %v, %d", x, v, err)
	}
	b := &bench{plain: x.plain(d), disk: d, volume: v}
	b.mustDo(t, l...)
	return b
}

// mustDo does commands on both that tell no error.
func (b *bench) mustDo(t testing.TB, l ...api.Command) {
	t.Helper()
	for _, c := range l {
		if err := tells(t, b.volume, b.plain, c); err != api.OK {
			t.Fatalf("%s of %v = %d", short(c), b.site, err)
		}
	}
}

// do does a command on both, and holds against each other what is told, and what the volume is then: this one, and the one
// that is opened. Nothing is left pending.
func (b *bench) do(t testing.TB, c api.Command) api.Errno {
	t.Helper()
	err := tells(t, b.volume, b.plain, c)
	b.check(t)
	return err
}

func (b *bench) check(t testing.TB) {
	t.Helper()
	checkVolume(t, b.volume, b.plain)
	checkVolume(t, mustOpen(t, b.disk), b.plain)
	if n := b.disk.Pending(); n != 0 {
		t.Fatalf("%d writes are pending", n)
	}
}

// refuse holds that a command tells an error ahead of all that it could do on the disk, also on a dead one.
func (b *bench) refuse(t testing.TB, c api.Command, want api.Errno) {
	t.Helper()
	before := b.disk.Clone()
	b.disk.Fail(0)
	if r, err := b.volume.Do(c); r.Data != "" || len(r.N) != 0 || err != want {
		t.Fatalf("%s of %v = %q, %v, %d, want %d", short(c), b.site, r.Data, r.N, err, want)
	}
	if b.disk.Dead() {
		t.Fatalf("%s of %v does something on the disk", short(c), b.site)
	}
	b.disk.Fail(-1)
	checkDisks(t, b.disk, before)
	checkVolume(t, b.volume, b.plain)
	v := mustOpen(t, before)
	die(before)
	if r, err := v.Do(c); r.Data != "" || len(r.N) != 0 || err != want {
		t.Fatalf("%s of %v on a dead disk = %q, %v, %d, want %d", short(c), b.site, r.Data, r.N, err, want)
	}
}

func mustOpen(t testing.TB, d *disk.Disk) *Volume {
	t.Helper()
	v, err := Open(d)
	if v == nil || err != api.OK {
		t.Fatalf("Open = %v, %d", v, err)
	}
	return v
}

// die lets a disk be dead; what is pending stays so.
func die(d *disk.Disk) {
	d.Fail(0)
	d.Flush()
}

// setSector lets a sector stand on a disk, whatever it is.
func setSector(t testing.TB, d *disk.Disk, sector int, data string) {
	t.Helper()
	if d.Write(sector, data) != api.OK || d.Flush() != api.OK {
		t.Fatalf("sector %d is not written", sector)
	}
}

// setSlot lets a slot stand on a disk, whatever it is.
func setSlot(t testing.TB, d *disk.Disk, id int, x api.Slot) {
	t.Helper()
	data, err := slot.Encode(x)
	if err != api.OK {
		t.Fatalf("%v may not be: %d", x, err)
	}
	setSector(t, d, firstSlot+id-1, data)
}

// checkDisks holds two disks against each other: what stands, and each of the pending writes.
func checkDisks(t testing.TB, got, want *disk.Disk) {
	t.Helper()
	if got.Pending() != want.Pending() || got.Dead() != want.Dead() || got.Bytes() != want.Bytes() {
		t.Fatalf("%d pending, dead %t, want %d, %t; the same stands: %t", got.Pending(), got.Dead(), want.Pending(), want.Dead(), got.Bytes() == want.Bytes())
	}
	for i := range want.Pending() {
		keep := make([]bool, i+1)
		keep[i] = true
		a, b := got.Clone(), want.Clone()
		a.Restart(keep...)
		b.Restart(keep...)
		if a.Bytes() != b.Bytes() {
			t.Fatalf("pending write %d is another one", i)
		}
	}
}
