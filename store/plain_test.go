package store

import (
	"slices"
	"strconv"
	"strings"
	"testing"

	"oakum/api"
	"oakum/disk"
	"oakum/head"
	"oakum/layout"
	"oakum/page"
)

const (
	sectorSize    = 64
	pageEntries   = 13
	greatestChunk = 2147483646 // 2^31 - 2
	greatestGen   = 4294967295 // 2^32 - 1
)

// site is where a store stands, and what it must be there: its numbers are counted by hand, sector by sector.
type site struct {
	parted api.Super
	at     api.Extent
	gen    uint32
	head   int
	pages  []int // the sectors of its pages
	chunks []int // the first sectors of its places
}

// small has room for three chunks of two sectors; of its page ten places are none's.
func small() site {
	return site{
		parted: api.Super{Sectors: 60, Origin: 20, Chunk: 2}, at: api.Extent{Start: 40, Len: 8}, gen: 5,
		head: 40, pages: []int{41}, chunks: []int{42, 44, 46},
	}
}

// wide has room for 14 chunks of one sector: of its second page one place is its own.
func wide() site {
	return site{
		parted: api.Super{Sectors: 60, Origin: 10, Chunk: 1}, at: api.Extent{Start: 30, Len: 17}, gen: greatestGen,
		head: 30, pages: []int{31, 32}, chunks: []int{33, 34, 35, 36, 37, 38, 39, 40, 41, 42, 43, 44, 45, 46},
	}
}

// full has room for 26 chunks of three sectors, two whole pages, from the first sector of the stores on to the last one.
func full() site {
	x := site{
		parted: api.Super{Sectors: 99, Origin: 1, Chunk: 3}, at: api.Extent{Start: 18, Len: 81}, gen: 1,
		head: 18, pages: []int{19, 20},
	}
	for sector := 21; sector < 99; sector += 3 {
		x.chunks = append(x.chunks, sector)
	}
	return x
}

// long has room for four pages and one place, and one sector that is too few for a chunk of two.
func long() site {
	x := site{
		parted: api.Super{Sectors: 200, Origin: 30, Chunk: 2}, at: api.Extent{Start: 60, Len: 113}, gen: 7,
		head: 60, pages: []int{61, 62, 63, 64, 65},
	}
	for sector := 66; sector < 172; sector += 2 {
		x.chunks = append(x.chunks, sector)
	}
	return x
}

func sites() []site { return []site{small(), wide(), full(), long()} }

func (x site) layout(t testing.TB) layout.Layout {
	t.Helper()
	l, err := layout.Of(x.parted)
	if err != api.OK {
		t.Fatalf("Of(%v) = %d", x.parted, err)
	}
	return l
}

func (x site) open(t testing.TB, d *disk.Disk) (*Store, api.Errno) {
	t.Helper()
	return Open(d, x.layout(t), x.at, x.gen)
}

func (x site) mustOpen(t testing.TB, d *disk.Disk) *Store {
	t.Helper()
	s, err := x.open(t, d)
	if err != api.OK || s == nil {
		t.Fatalf("Open = %v, %d", s, err)
	}
	return s
}

func (x site) mustCreate(t testing.TB, d *disk.Disk) *Store {
	t.Helper()
	s, err := Create(d, x.layout(t), x.at, x.gen)
	if err != api.OK || s == nil {
		t.Fatalf("Create = %v, %d", s, err)
	}
	return s
}

// junk is a disk on which no sector is another one, or anything's.
func (x site) junk() *disk.Disk {
	var b strings.Builder
	for i := range x.parted.Sectors {
		b.WriteString(sectorOf("junk", i))
	}
	return disk.Load(b.String())
}

// sectorOf is a sector's bytes, which tell what they are.
func sectorOf(name string, numbers ...int) string {
	for _, n := range numbers {
		name += " " + strconv.Itoa(n)
	}
	return name + strings.Repeat(".", sectorSize-len(name))
}

// sectorsOf is so many sectors, each another one.
func sectorsOf(name string, n int, numbers ...int) string {
	s := ""
	for i := range n {
		s += sectorOf(name, append(slices.Clone(numbers), i)...)
	}
	return s
}

// copyOf is a full chunk.
func (x site) copyOf(origin int, name string) Copy {
	return Copy{Origin: origin, Data: sectorsOf(name, x.parted.Chunk, origin)}
}

func (x site) copiesOf(name string, origins ...int) []Copy {
	var l []Copy
	for _, origin := range origins {
		l = append(l, x.copyOf(origin, name))
	}
	return l
}

// thing is what is done on a disk: the write of a sector, or, of flush, a flush.
type thing struct {
	sector int
	data   string
}

var flush = thing{sector: -1}

// do is one done; the disk's error.
func (th thing) do(d *disk.Disk) api.Errno {
	if th == flush {
		return d.Flush()
	}
	return d.Write(th.sector, th.data)
}

// written are the things of a write of whole sectors.
func written(sector int, data string) []thing {
	var l []thing
	for i := range len(data) / sectorSize {
		l = append(l, thing{sector + i, data[i*sectorSize:][:sectorSize]})
	}
	return l
}

// plain is a store by the chapter's words.
type plain struct {
	site
	places  []int // of each place its chunk, -1: none
	bytes   []string
	invalid bool
}

func (x site) plain() *plain {
	p := &plain{site: x, bytes: make([]string, len(x.chunks))}
	for range x.chunks {
		p.places = append(p.places, -1)
	}
	return p
}

func (p *plain) clone() *plain {
	q := *p
	q.places, q.bytes = slices.Clone(p.places), slices.Clone(p.bytes)
	return &q
}

func (p *plain) place(origin int) int {
	if origin == -1 {
		return -1
	}
	return slices.Index(p.places, origin)
}

func (p *plain) left() int {
	n := 0
	for _, chunk := range p.places {
		if chunk == -1 && !p.invalid {
			n++
		}
	}
	return n
}

func (p *plain) all() []api.Entry {
	var l []api.Entry
	for place, chunk := range p.places {
		if chunk != -1 {
			l = append(l, api.Entry{Origin: chunk, Index: place})
		}
	}
	slices.SortFunc(l, func(a, b api.Entry) int { return a.Origin - b.Origin })
	return l
}

func (p *plain) origins() []int {
	var l []int
	for _, e := range p.all() {
		l = append(l, e.Origin)
	}
	return l
}

// headThing is the write of its head.
func (p *plain) headThing() thing {
	s, _ := head.Encode(api.Head{Gen: p.gen, Chunk: p.parted.Chunk, Cap: len(p.chunks), Invalid: p.invalid})
	return thing{p.head, s}
}

// pageThing is the write of a page.
func (p *plain) pageThing(i int) thing {
	numbers := slices.Repeat([]int{-1}, pageEntries)
	copy(numbers, p.places[i*pageEntries:])
	s, _ := page.Encode(p.gen, numbers...)
	return thing{p.pages[i], s}
}

// changed are the writes of the pages of places, each once, rising, and a flush.
func (p *plain) changed(places []int) []thing {
	var l []thing
	for i := range p.pages {
		if slices.ContainsFunc(places, func(place int) bool { return place/pageEntries == i }) {
			l = append(l, p.pageThing(i))
		}
	}
	return append(l, flush)
}

// created are the things of Create.
func (p *plain) created() []thing {
	var l []thing
	for i := range p.pages {
		l = append(l, p.pageThing(i))
	}
	return append(l, p.headThing(), flush)
}

func (p *plain) read(origin, from, n int) (string, api.Errno) {
	switch place := p.place(origin); {
	case p.invalid:
		return "", api.ErrInvalid
	case place == -1:
		return "", api.ErrNone
	case from < 0 || n < 0 || from > p.parted.Chunk || n > p.parted.Chunk || from+n > p.parted.Chunk:
		return "", api.ErrRange
	default:
		return p.bytes[place][from*sectorSize:][:n*sectorSize], api.OK
	}
}

func (p *plain) write(origin, from int, data string) ([]thing, api.Errno) {
	place, n := p.place(origin), len(data)/sectorSize
	switch {
	case p.invalid:
		return nil, api.ErrInvalid
	case place == -1:
		return nil, api.ErrNone
	case len(data)%sectorSize != 0:
		return nil, api.ErrArg
	case from < 0 || from > p.parted.Chunk || from+n > p.parted.Chunk:
		return nil, api.ErrRange
	}
	old := p.bytes[place]
	p.bytes[place] = old[:from*sectorSize] + data + old[from*sectorSize+len(data):]
	return written(p.chunks[place]+from, data), api.OK
}

func (p *plain) add(l []Copy) ([]thing, api.Errno) {
	if p.invalid {
		return nil, api.ErrInvalid
	}
	for i, c := range l {
		twice := slices.ContainsFunc(l[:i], func(ahead Copy) bool { return ahead.Origin == c.Origin })
		if c.Origin < 0 || c.Origin > greatestChunk || p.place(c.Origin) != -1 || twice || len(c.Data) != p.parted.Chunk*sectorSize {
			return nil, api.ErrArg
		}
	}
	if len(l) > p.left() {
		return nil, api.ErrSpace
	}
	if len(l) == 0 {
		return nil, api.OK
	}
	var things []thing
	var places []int
	for _, c := range l {
		place := slices.Index(p.places, -1)
		p.places[place], p.bytes[place] = c.Origin, c.Data
		things = append(things, written(p.chunks[place], c.Data)...)
		places = append(places, place)
	}
	return append(append(things, flush), p.changed(places)...), api.OK
}

func (p *plain) remove(l []int) ([]thing, api.Errno) {
	if p.invalid {
		return nil, api.ErrInvalid
	}
	var places []int
	for i, origin := range l {
		if p.place(origin) == -1 || slices.Contains(l[:i], origin) {
			return nil, api.ErrNone
		}
		places = append(places, p.place(origin))
	}
	if len(l) == 0 {
		return nil, api.OK
	}
	for _, place := range places {
		p.places[place], p.bytes[place] = -1, ""
	}
	return p.changed(places), api.OK
}

func (p *plain) spoil() ([]thing, api.Errno) {
	p.invalid = true
	for place := range p.places {
		p.places[place], p.bytes[place] = -1, ""
	}
	return []thing{p.headThing(), flush}, api.OK
}

// call is one of those that write.
type call struct {
	op           string // add, write, remove, spoil
	copies       []Copy
	origins      []int
	origin, from int
	data         string
}

func adding(l ...Copy) call  { return call{op: "add", copies: l} }
func removing(l ...int) call { return call{op: "remove", origins: l} }
func spoiling() call         { return call{op: "spoil"} }

func writing(origin, from int, data string) call {
	return call{op: "write", origin: origin, from: from, data: data}
}

// String is short: of bytes it tells how many they are.
func (c call) String() string {
	l := []string{c.op}
	if c.op == "write" {
		l = append(l, strconv.Itoa(c.origin), strconv.Itoa(c.from), strconv.Itoa(len(c.data)))
	}
	for _, x := range c.copies {
		l = append(l, strconv.Itoa(x.Origin)+":"+strconv.Itoa(len(x.Data)))
	}
	for _, origin := range c.origins {
		l = append(l, strconv.Itoa(origin))
	}
	return strings.Join(l, " ")
}

func (c call) on(s *Store) api.Errno {
	switch c.op {
	case "add":
		return s.Add(c.copies...)
	case "write":
		return s.Write(c.origin, c.from, c.data)
	case "remove":
		return s.Remove(c.origins...)
	}
	return s.Spoil()
}

func (c call) onPlain(p *plain) ([]thing, api.Errno) {
	switch c.op {
	case "add":
		return p.add(c.copies)
	case "write":
		return p.write(c.origin, c.from, c.data)
	case "remove":
		return p.remove(c.origins)
	}
	return p.spoil()
}

// checkStore holds all that a store tells of itself against a plain one.
func checkStore(t testing.TB, s *Store, p *plain) {
	t.Helper()
	if s.Invalid() != p.invalid || s.Left() != p.left() || !slices.Equal(s.All(), p.all()) {
		t.Fatalf("invalid %t, %d left, %v, want %t, %d, %v", s.Invalid(), s.Left(), s.All(), p.invalid, p.left(), p.all())
	}
	for _, chunk := range append(p.origins(), -2, -1, 0, 1, 2, 3, greatestChunk, greatestChunk+1) {
		if s.Has(chunk) != (p.place(chunk) != -1) {
			t.Fatalf("Has(%d) = %t: %v", chunk, s.Has(chunk), p.all())
		}
		checkRead(t, s, p, chunk, 0, p.parted.Chunk)
	}
}

func checkRead(t testing.TB, s *Store, p *plain, origin, from, n int) {
	t.Helper()
	want, wantErr := p.read(origin, from, n)
	if got, err := s.Read(origin, from, n); got != want || err != wantErr {
		t.Fatalf("Read(%d, %d, %d) = %q, %d, want %q, %d", origin, from, n, got, err, want, wantErr)
	}
}

// checkDisks holds two disks against each other: what stands, and each of the pending writes.
func checkDisks(t testing.TB, got, want *disk.Disk) {
	t.Helper()
	for i := range want.Pending() {
		checkPending(t, got, want, i)
	}
	checkPending(t, got, want, -1)
}

// checkPending holds two disks against each other: what stands, how many writes are pending, and one of these.
func checkPending(t testing.TB, got, want *disk.Disk, i int) {
	t.Helper()
	if got.Pending() != want.Pending() || got.Dead() != want.Dead() || got.Bytes() != want.Bytes() {
		t.Fatalf("%d pending, dead %t, want %d, %t; the same stands: %t", got.Pending(), got.Dead(), want.Pending(), want.Dead(), got.Bytes() == want.Bytes())
	}
	if i < 0 {
		return
	}
	keep := make([]bool, i+1)
	keep[i] = true
	a, b := got.Clone(), want.Clone()
	a.Restart(keep...)
	b.Restart(keep...)
	if a.Bytes() != b.Bytes() {
		t.Fatalf("pending write %d is another one", i)
	}
}

// checkThings holds what a call does on a disk against things, in their order, one by one: the power fails at each of
// them, and behind the last one. With each fuse only the newest pending write is looked at: a smaller one showed the others.
func checkThings(t testing.TB, before *disk.Disk, do func(*disk.Disk) api.Errno, things []thing) {
	t.Helper()
	for fuse := 0; fuse <= len(things); fuse++ {
		want, wantErr := before.Clone(), api.OK
		want.Fail(fuse)
		for _, th := range things {
			if wantErr = th.do(want); wantErr != api.OK {
				break
			}
		}
		got := before.Clone()
		got.Fail(fuse)
		if err := do(got); err != wantErr {
			t.Fatalf("fuse %d of %d: %d, want %d", fuse, len(things), err, wantErr)
		}
		checkPending(t, got, want, want.Pending()-1)
	}
}

// bench is a store, and a plain one with the same calls behind it.
type bench struct {
	*plain
	disk  *disk.Disk
	store *Store
}

// bench has an empty store on a disk of junk.
func (x site) bench(t testing.TB) *bench {
	t.Helper()
	d := x.junk()
	return &bench{plain: x.plain(), disk: d, store: x.mustCreate(t, d)}
}

// benchOf has a store with these.
func (x site) benchOf(t testing.TB, origins ...int) *bench {
	t.Helper()
	b := x.bench(t)
	b.do(t, adding(x.copiesOf("first", origins...)...))
	return b
}

// do does a call on both, and holds against each other what is told, what is done on the disk, thing by thing, and what
// the store is then: this one, and the one that is opened.
func (b *bench) do(t testing.TB, c call) {
	t.Helper()
	things, want := c.onPlain(b.plain)
	again := func(d *disk.Disk) api.Errno { return c.on(b.mustOpen(t, d)) }
	checkThings(t, b.disk, again, things)
	if err := c.on(b.store); err != want {
		t.Fatalf("%v = %d, want %d", c, err, want)
	}
	b.check(t)
}

func (b *bench) check(t testing.TB) {
	t.Helper()
	checkStore(t, b.store, b.plain)
	checkStore(t, b.mustOpen(t, b.disk), b.plain)
}

// refuse holds that a call tells an error ahead of all that it could do on the disk, also on a dead one.
func (b *bench) refuse(t testing.TB, c call, want api.Errno) {
	t.Helper()
	if _, err := c.onPlain(b.plain.clone()); err != want {
		t.Fatalf("%v of a plain store = %d, want %d", c, err, want)
	}
	before := b.disk.Clone()
	b.disk.Fail(0)
	if err := c.on(b.store); err != want {
		t.Fatalf("%v = %d, want %d", c, err, want)
	}
	if b.disk.Dead() {
		t.Fatalf("%v does something on the disk", c)
	}
	b.disk.Fail(-1)
	checkDisks(t, b.disk, before)
	b.check(t)
	b.onDead(t, c, want)
}

// onDead holds what a call tells on a dead disk.
func (b *bench) onDead(t testing.TB, c call, want api.Errno) {
	t.Helper()
	d := b.disk.Clone()
	s := b.mustOpen(t, d)
	die(d)
	if err := c.on(s); err != want {
		t.Fatalf("%v on a dead disk = %d, want %d", c, err, want)
	}
}

// die lets a disk be dead; what is pending stays so.
func die(d *disk.Disk) {
	d.Fail(0)
	d.Flush()
}
