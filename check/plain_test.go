package check

import (
	"encoding/binary"
	"fmt"
	"hash/crc32"
	"slices"
	"strings"
	"testing"

	"oakum/api"
	"oakum/disk"
	"oakum/snap"
)

const (
	sectorSize  = 64
	sumSize     = 4
	pageEntries = 13
	slotCount   = 16
	diskEnd     = 1 << 20
	firstSlot   = 1
	firstOrigin = 17 // the superblock's sector, and 16 slots', stand ahead of it
	mostChunk   = 1<<31 - 2
	greatestGen = 1<<32 - 1
)

// numbered are the lowest bytes of a number, so many, the lowest first.
func numbered(size, n int) string {
	return string(binary.LittleEndian.AppendUint64(nil, uint64(n))[:size])
}

// sealed is a body, bytes 0, and their sum, by the library.
func sealed(body string) string {
	b := make([]byte, sectorSize-sumSize)
	if copy(b, body) != len(body) {
		panic("a body that is too long")
	}
	return string(binary.LittleEndian.AppendUint32(b, crc32.ChecksumIEEE(b)))
}

func superSector(x api.Super) string {
	return sealed("OAK1" + numbered(4, x.Sectors) + numbered(4, x.Origin) + numbered(4, x.Chunk))
}

func slotSector(x api.Slot) string {
	return sealed("OAKS" + numbered(1, int(x.State)) + numbered(4, x.Store.Start) + numbered(4, x.Store.Len) + numbered(4, int(x.Gen)))
}

func headSector(h api.Head) string {
	invalid := 0
	if h.Invalid {
		invalid = 1
	}
	return sealed("OAKH" + numbered(4, int(h.Gen)) + numbered(2, h.Chunk) + numbered(4, h.Cap) + numbered(1, invalid))
}

// pageSector is a page with these chunks at its first places, and with none at the others.
func pageSector(gen uint32, chunks ...int) string {
	body := numbered(4, int(gen))
	for i := range pageEntries {
		chunk := -1
		if i < len(chunks) {
			chunk = chunks[i]
		}
		body += numbered(4, chunk+1)
	}
	return sealed(body)
}

// junk is a sector that is nothing's.
func junk(name string) string { return name + strings.Repeat(".", sectorSize-len(name)) }

// bytesOf are a disk's, with a superblock, slots that are Free, and nothing's sectors behind them.
func bytesOf(x api.Super) []byte {
	b := []byte(superSector(x) + strings.Repeat(slotSector(api.Slot{}), slotCount))
	for i := firstOrigin; i < x.Sectors; i++ {
		b = append(b, junk(fmt.Sprint("sector ", i))...)
	}
	return b
}

// set lets a sector be of bytes.
func set(b []byte, sector int, data string) { copy(b[sector*sectorSize:][:sectorSize], data) }

// sectorOf is a sector's bytes.
func sectorOf(b []byte, sector int) string { return string(b[sector*sectorSize:][:sectorSize]) }

// setStore lets a slot be, and its store: a head, and pages with these chunks at the first places.
func setStore(b []byte, id int, x api.Slot, h api.Head, chunks ...int) {
	set(b, firstSlot+id-1, slotSector(x))
	set(b, x.Store.Start, headSector(h))
	if h.Invalid {
		return
	}
	for i := range pagesOf(h.Cap) {
		from, end := min(i*pageEntries, len(chunks)), min((i+1)*pageEntries, len(chunks))
		set(b, x.Store.Start+1+i, pageSector(h.Gen, chunks[from:end]...))
	}
}

// pagesOf is how many pages so many places have, counted up one by one.
func pagesOf(places int) int {
	n := 0
	for told := 0; told < places; told += pageEntries {
		n++
	}
	return n
}

// roomOf is how many chunks a store of so many sectors has room for, counted up one by one: each first one of a page needs
// that, too.
func roomOf(sectors, chunk int) int {
	n := 0
	for left := sectors - 1; ; n++ {
		if n%pageEntries == 0 {
			left--
		}
		left -= chunk
		if left < 0 {
			return n
		}
	}
}

// fault is what is wrong with a sector.
type fault struct {
	sector int
	err    api.Errno
}

var sound = fault{0, api.OK}

// plain is a look at bytes by the chapters' words alone: all is written out here once more, with the library's sums.
type plain struct {
	b     []byte
	count int // of the sectors that were handed in
	super api.Super
	slots []api.Slot
}

func plainBytes(s string) (Report, fault) {
	p := &plain{b: []byte(s)}
	for len(p.b)%sectorSize != 0 {
		p.b = append(p.b, 0)
	}
	p.count = len(p.b) / sectorSize
	for _, step := range []func() fault{p.readSuper, p.readSlots, p.compareSlots} {
		if f := step(); f != sound {
			return Report{}, f
		}
	}
	r := Report{Super: p.super}
	for i, x := range p.slots {
		if x.State == 0 {
			continue
		}
		line, f := p.line(i+1, x)
		if f != sound {
			return Report{}, f
		}
		r.Lines = append(r.Lines, line)
	}
	return r, sound
}

// open is the body of a sector behind its letters, and what is wrong with it.
func (p *plain) open(sector int, letters string) (string, fault) {
	s := sectorOf(p.b, sector)
	body := s[:sectorSize-sumSize]
	switch {
	case binary.LittleEndian.Uint32([]byte(s[len(body):])) != crc32.ChecksumIEEE([]byte(body)):
		return "", fault{sector, api.ErrSum}
	case !strings.HasPrefix(body, letters):
		return "", fault{sector, api.ErrMagic}
	}
	return body[len(letters):], sound
}

// take are numbers of these sizes, and whether nothing but bytes 0 stands behind them.
func take(body string, sizes ...int) ([]int, bool) {
	var l []int
	for _, size := range sizes {
		n := 0
		for i := size - 1; i >= 0; i-- {
			n = n*256 + int(body[i])
		}
		l, body = append(l, n), body[size:]
	}
	return l, strings.Trim(body, "\x00") == ""
}

func (p *plain) readSuper() fault {
	if p.count < 1 {
		return fault{0, api.ErrCut}
	}
	body, f := p.open(0, "OAK1")
	if f != sound {
		return f
	}
	n, nothing := take(body, 4, 4, 4)
	p.super = api.Super{Sectors: n[0], Origin: n[1], Chunk: n[2]}
	switch {
	case !nothing || n[1] < 1 || n[2] < 1 || n[2] > 128 || n[0] > diskEnd || n[0] < n[1]+firstOrigin:
		return fault{0, api.ErrForm}
	case p.count < n[0]:
		return fault{0, api.ErrRange}
	}
	return sound
}

func (p *plain) readSlots() fault {
	for i := range slotCount {
		body, f := p.open(firstSlot+i, "OAKS")
		if f != sound {
			return f
		}
		n, nothing := take(body, 1, 4, 4, 4)
		free := n[0] == 0 && n[1] == 0 && n[2] == 0
		used := (n[0] == 1 || n[0] == 2) && n[2] >= 1 && n[3] >= 1 && n[1]+n[2] <= diskEnd
		if !nothing || !free && !used {
			return fault{firstSlot + i, api.ErrForm}
		}
		p.slots = append(p.slots, api.Slot{State: api.State(n[0]), Store: api.Extent{Start: n[1], Len: n[2]}, Gen: uint32(n[3])})
	}
	return sound
}

// compareSlots marks each store's sectors, one by one.
func (p *plain) compareSlots() fault {
	taken, merging := map[int]bool{}, false
	for i, x := range p.slots {
		for sector := x.Store.Start; sector < x.Store.Start+x.Store.Len; sector++ {
			if sector < firstOrigin+p.super.Origin || sector >= p.super.Sectors || taken[sector] {
				return fault{firstSlot + i, api.ErrRange}
			}
			taken[sector] = true
		}
		if x.State == 2 && merging {
			return fault{firstSlot + i, api.ErrBusy}
		}
		merging = merging || x.State == 2
	}
	return sound
}

func (p *plain) line(id int, x api.Slot) (Line, fault) {
	first, room := x.Store.Start, roomOf(x.Store.Len, p.super.Chunk)
	if room == 0 {
		return Line{}, fault{first, api.ErrSpace}
	}
	body, f := p.open(first, "OAKH")
	if f != sound {
		return Line{}, f
	}
	n, nothing := take(body, 4, 2, 4, 1)
	switch {
	case !nothing || n[0] < 1 || n[1] < 1 || n[1] > 128 || n[2] < 1 || n[2] > diskEnd || n[3] > 1:
		return Line{}, fault{first, api.ErrForm}
	case n[0] != int(x.Gen) || n[1] != p.super.Chunk || n[2] != room:
		return Line{}, fault{first, api.ErrForm}
	case n[3] == 1 && x.State == 2:
		return Line{}, fault{first, api.ErrBusy}
	case n[3] == 1:
		return Line{ID: id, Slot: x, Room: room, Invalid: true}, sound
	}
	entries, f := p.entries(x, room)
	if f != sound {
		return Line{}, f
	}
	return Line{ID: id, Slot: x, Room: room, Entries: entries}, sound
}

// entries are what all pages of a store tell of, by rising chunks.
func (p *plain) entries(x api.Slot, room int) ([]api.Entry, fault) {
	var numbers []int
	for i := range pagesOf(room) {
		sector := x.Store.Start + 1 + i
		body, f := p.open(sector, "")
		if f != sound {
			return nil, f
		}
		n, nothing := take(body, 4, 4, 4, 4, 4, 4, 4, 4, 4, 4, 4, 4, 4, 4)
		if !nothing || slices.Max(n[1:]) > mostChunk+1 || n[0] != int(x.Gen) {
			return nil, fault{sector, api.ErrForm}
		}
		numbers = append(numbers, n[1:]...)
	}
	return loaded(numbers, room, x.Store.Start)
}

func loaded(numbers []int, room, first int) ([]api.Entry, fault) {
	var l []api.Entry
	for place, n := range numbers {
		if n == 0 {
			continue
		}
		twice := slices.ContainsFunc(l, func(e api.Entry) bool { return e.Origin == n-1 })
		if twice || place >= room {
			return nil, fault{first, api.ErrCorrupt}
		}
		l = append(l, api.Entry{Origin: n - 1, Index: place})
	}
	slices.SortFunc(l, func(a, b api.Entry) int { return a.Origin - b.Origin })
	return l, sound
}

// isEmpty tells whether a report has nothing.
func isEmpty(r Report) bool { return r.Super == api.Super{} && r.Lines == nil }

func sameLines(a, b Line) bool {
	return a.ID == b.ID && a.Slot == b.Slot && a.Room == b.Room && a.Invalid == b.Invalid && slices.Equal(a.Entries, b.Entries)
}

func sameReports(a, b Report) bool {
	return a.Super == b.Super && slices.EqualFunc(a.Lines, b.Lines, sameLines)
}

// checkFault holds that something is wrong with bytes, and that the report is empty then.
func checkFault(t testing.TB, what, s string, want fault) {
	t.Helper()
	if r, sector, err := Bytes(s); sector != want.sector || err != want.err || !isEmpty(r) {
		t.Errorf("%s: %v, sector %d, error %d, want %v", what, r, sector, err, want)
	}
}

// checkReport holds that nothing is wrong with bytes, and that this is their report.
func checkReport(t testing.TB, what, s string, want Report) {
	t.Helper()
	if r, sector, err := Bytes(s); sector != 0 || err != api.OK || !sameReports(r, want) {
		t.Errorf("%s: %v, sector %d, error %d, want %v", what, r, sector, err, want)
	}
}

// checkJust holds that what is told of bytes is what the chapters' words say, and that nothing is wrong with them just if a
// disk of them can be opened; then that the report has what its engine tells. It tells what is wrong.
func checkJust(t testing.TB, what, s string) fault {
	t.Helper()
	r, sector, err := Bytes(s)
	want, f := plainBytes(s)
	if (fault{sector, err}) != f || !sameReports(r, want) {
		t.Fatalf("%s: %v, sector %d, error %d, want %v, %v", what, r, sector, err, want, f)
	}
	e, openErr := snap.Open(disk.Load(s))
	if (err == api.OK) != (openErr == api.OK) {
		t.Fatalf("%s: sector %d, error %d, but Open = %d", what, sector, err, openErr)
	}
	if err == api.OK {
		checkTold(t, what, r, e)
	} else if !isEmpty(r) {
		t.Fatalf("%s: %v beside error %d", what, r, err)
	}
	return f
}

// checkTold holds a report against what an engine tells.
func checkTold(t testing.TB, what string, r Report, e *snap.Engine) {
	t.Helper()
	var ids []int
	for _, x := range r.Lines {
		ids = append(ids, x.ID)
	}
	if r.Super != e.Super() || !slices.Equal(ids, e.IDs()) {
		t.Fatalf("%s: %v, of %v, want %v, of %v", what, r.Super, ids, e.Super(), e.IDs())
	}
	merging := 0
	for _, x := range r.Lines {
		told, _ := e.Slot(x.ID)
		s := e.Store(x.ID)
		if x.Slot != told || x.Invalid != s.Invalid() || !slices.Equal(x.Entries, s.All()) {
			t.Fatalf("%s: %v, want %v, invalid %t, %v", what, x, told, s.Invalid(), s.All())
		}
		if !x.Invalid && x.Room != s.Left()+len(s.All()) {
			t.Fatalf("%s: %v, but %d places are left", what, x, s.Left())
		}
		if x.Slot.State == api.Merging {
			merging = x.ID
		}
	}
	if merging != e.Merging() {
		t.Fatalf("%s: %d is Merging, want %d", what, merging, e.Merging())
	}
}
