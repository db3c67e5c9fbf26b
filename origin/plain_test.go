package origin

import (
	"math"
	"slices"
	"strconv"
	"strings"
	"testing"

	"oakum/api"
	"oakum/disk"
	"oakum/layout"
)

const (
	sectorSize = 64
	diskEnd    = 1048576 // 2^20
	first      = 17      // the origin's first sector on the disk: the superblock's, and 16 slots', stand ahead of it
)

// site is how a disk is parted.
type site struct {
	sectors, origin, chunk int
}

// sites have a last chunk that is full, or cut short, or the only one, chunks of one sector and of the most, and stores or
// none.
func sites() []site {
	return []site{{40, 5, 2}, {40, 6, 2}, {36, 11, 4}, {28, 11, 4}, {60, 9, 3}, {30, 7, 1}, {18, 1, 1}, {20, 1, 2}, {19, 1, 128}, {160, 128, 128}, {300, 129, 128}, {40, 20, 7}}
}

// some of them are small: all that can be asked of these is.
func smallSites() []site {
	return slices.DeleteFunc(sites(), func(x site) bool { return x.origin > 20 })
}

func (x site) layout(t testing.TB) layout.Layout {
	t.Helper()
	l, err := layout.Of(api.Super{Sectors: x.sectors, Origin: x.origin, Chunk: x.chunk})
	if err != api.OK {
		t.Fatalf("%v may not be: %d", x, err)
	}
	return l
}

func (x site) mustOf(t testing.TB, d *disk.Disk) *Origin {
	t.Helper()
	o, err := Of(d, x.layout(t))
	if err != api.OK || o == nil {
		t.Fatalf("Of %v = %v, %d", x, o, err)
	}
	return o
}

// chunks are the origin's sectors of each chunk, counted up one by one.
func (x site) chunks() [][]int {
	var l [][]int
	for i := range x.origin {
		if i%x.chunk == 0 {
			l = append(l, nil)
		}
		l[len(l)-1] = append(l[len(l)-1], i)
	}
	return l
}

// full is how many bytes a full chunk has.
func (x site) full() int { return x.chunk * sectorSize }

// junk is a disk, with some sectors behind the layout's, on which no sector is another one.
func (x site) junk() *disk.Disk {
	var b strings.Builder
	for i := range x.sectors + 3 {
		b.WriteString(sectorOf("junk", i))
	}
	return disk.Load(b.String())
}

// sectorOf is a sector's bytes, which tell what they are.
func sectorOf(name string, numbers ...int) string {
	for _, n := range numbers {
		name += " " + strconv.Itoa(n)
	}
	return name + strings.Repeat(".", sectorSize-len(name))
}

// sectorsOf is so many sectors, each another one.
func sectorsOf(name string, n int) string {
	var b strings.Builder
	for i := range n {
		b.WriteString(sectorOf(name, i))
	}
	return b.String()
}

// edges are numbers that calls are asked with, whatever their argument means.
func edges() []int {
	return []int{
		math.MinInt, math.MinInt + 1, math.MinInt + 17, math.MinInt32, -1 << 32, -1<<32 + 1, -diskEnd, -128, -18, -17, -16, -4, -2, -1, 0, 1, 2, 3, 4, 5, 6, 7,
		16, 17, 18, 127, 128, 129, diskEnd - 17, diskEnd - 1, diskEnd, diskEnd + 1, math.MaxInt32, 1 << 32, 1<<32 + 1, 1 << 57, 1 << 58, 1 << 62, 1<<62 + 1, 1<<63/3 + 1, math.MaxInt - 17, math.MaxInt - 1, math.MaxInt,
	}
}

// thing is what is done on a disk: the write of a sector, or, of flush, a flush.
type thing struct {
	sector int
	data   string
}

var flush = thing{sector: -1}

// do is one done; the disk's error.
func (th thing) do(d *disk.Disk) api.Errno {
	if th == flush {
		return d.Flush()
	}
	return d.Write(th.sector, th.data)
}

// plain is an origin by the chapter's words, on a disk that isn't dead.
type plain struct {
	site
	reads []string // of each of the origin's sectors what is read
}

func (x site) plain(d *disk.Disk) *plain {
	p := &plain{site: x}
	for i := range x.origin {
		s, _ := d.Read(first+i, 1)
		p.reads = append(p.reads, s)
	}
	return p
}

// has tells whether each of n sectors, from one on, is the origin's. Of none one behind the last one is its, too.
func (p *plain) has(at, n int) bool {
	return 0 <= at && at <= p.origin && 0 <= n && n <= p.origin && at+n <= p.origin
}

func (p *plain) read(at, n int) (string, api.Errno) {
	if !p.has(at, n) {
		return "", api.ErrRange
	}
	return strings.Join(p.reads[at:at+n], ""), api.OK
}

func (p *plain) chunkOf(c int) (string, api.Errno) {
	if c < 0 || c >= len(p.chunks()) {
		return "", api.ErrRange
	}
	var b strings.Builder
	for _, i := range p.chunks()[c] {
		b.WriteString(p.reads[i])
	}
	for b.Len() < p.full() {
		b.WriteByte(0)
	}
	return b.String(), api.OK
}

// call is one of those that do something on the disk.
type call struct {
	op   string // write, put, flush
	at   int
	data string
}

func writing(at int, data string) call { return call{"write", at, data} }
func putting(c int, data string) call  { return call{"put", c, data} }
func flushing() call                   { return call{op: "flush"} }

// String is short: of bytes it tells how many they are.
func (c call) String() string {
	return c.op + " " + strconv.Itoa(c.at) + " " + strconv.Itoa(len(c.data))
}

func (c call) on(o *Origin) api.Errno {
	switch c.op {
	case "write":
		return o.Write(c.at, c.data)
	case "put":
		return o.Put(c.at, c.data)
	}
	return o.Flush()
}

// onPlain is what it does on the disk, thing by thing, and what it tells.
func (c call) onPlain(p *plain) ([]thing, api.Errno) {
	var to []int
	switch {
	case c.op == "flush":
		return []thing{flush}, api.OK
	case c.op == "write" && len(c.data)%sectorSize != 0, c.op == "put" && len(c.data) != p.full():
		return nil, api.ErrArg
	case c.op == "write" && !p.has(c.at, len(c.data)/sectorSize), c.op == "put" && (c.at < 0 || c.at >= len(p.chunks())):
		return nil, api.ErrRange
	case c.op == "put":
		to = p.chunks()[c.at]
	default:
		for i := range len(c.data) / sectorSize {
			to = append(to, c.at+i)
		}
	}
	var things []thing
	for i, sector := range to {
		p.reads[sector] = c.data[i*sectorSize:][:sectorSize]
		things = append(things, thing{first + sector, p.reads[sector]})
	}
	return things, api.OK
}

// checkOrigin holds all that is read of an origin against a plain one.
func checkOrigin(t testing.TB, o *Origin, p *plain) {
	t.Helper()
	checkRead(t, o, p, 0, p.origin)
	checkRead(t, o, p, p.origin-1, 1)
	for c := range p.chunks() {
		checkChunk(t, o, p, c)
	}
}

func checkRead(t testing.TB, o *Origin, p *plain, at, n int) {
	t.Helper()
	want, wantErr := p.read(at, n)
	if got, err := o.Read(at, n); got != want || err != wantErr {
		t.Fatalf("Read(%d, %d) of %v = %q, %d, want %q, %d", at, n, p.site, got, err, want, wantErr)
	}
}

func checkChunk(t testing.TB, o *Origin, p *plain, c int) {
	t.Helper()
	want, wantErr := p.chunkOf(c)
	if got, err := o.Chunk(c); got != want || err != wantErr {
		t.Fatalf("Chunk(%d) of %v = %q, %d, want %q, %d", c, p.site, got, err, want, wantErr)
	}
}

// checkDisks holds two disks against each other: what stands, and each of the pending writes.
func checkDisks(t testing.TB, got, want *disk.Disk) {
	t.Helper()
	checkPending(t, got, want, -1)
	for i := range want.Pending() {
		checkPending(t, got, want, i)
	}
}

// checkPending holds two disks against each other: what stands, how many writes are pending, and one of these.
func checkPending(t testing.TB, got, want *disk.Disk, i int) {
	t.Helper()
	if got.Pending() != want.Pending() || got.Dead() != want.Dead() || got.Bytes() != want.Bytes() {
		t.Fatalf("%d pending, dead %t, want %d, %t; the same stands: %t", got.Pending(), got.Dead(), want.Pending(), want.Dead(), got.Bytes() == want.Bytes())
	}
	if i < 0 {
		return
	}
	keep := make([]bool, i+1)
	keep[i] = true
	a, b := got.Clone(), want.Clone()
	a.Restart(keep...)
	b.Restart(keep...)
	if a.Bytes() != b.Bytes() {
		t.Fatalf("pending write %d is another one", i)
	}
}

// checkThings holds what a call does on a disk against things, in their order, one by one: the power fails at each of
// them, and behind the last one; told is what the call tells then. With each fuse only the newest pending write is looked
// at: a smaller one showed the others.
func checkThings(t testing.TB, before *disk.Disk, x site, c call, things []thing, told api.Errno) {
	t.Helper()
	for fuse := 0; fuse <= len(things); fuse++ {
		want, wantErr := before.Clone(), told
		want.Fail(fuse)
		for _, th := range things {
			if err := th.do(want); err != api.OK {
				wantErr = err
				break
			}
		}
		got := before.Clone()
		got.Fail(fuse)
		if err := c.on(x.mustOf(t, got)); err != wantErr {
			t.Fatalf("%v of %v, fuse %d of %d: %d, want %d", c, x, fuse, len(things), err, wantErr)
		}
		checkPending(t, got, want, want.Pending()-1)
	}
}

// bench is an origin, and a plain one with the same calls behind it.
type bench struct {
	*plain
	disk   *disk.Disk
	origin *Origin
}

func (x site) bench(t testing.TB) *bench {
	t.Helper()
	d := x.junk()
	return &bench{plain: x.plain(d), disk: d, origin: x.mustOf(t, d)}
}

// do does a call on both, and holds against each other what is told, what is done on the disk, thing by thing, and what is
// read then.
func (b *bench) do(t testing.TB, c call) {
	t.Helper()
	before := b.disk.Clone()
	things, want := c.onPlain(b.plain)
	if err := c.on(b.origin); err != want {
		t.Fatalf("%v of %v = %d, want %d", c, b.site, err, want)
	}
	checkOrigin(t, b.origin, b.plain)
	checkThings(t, before, b.site, c, things, want)
}

// refuse holds that a call tells an error ahead of all that it could do on the disk, also on a dead one.
func (b *bench) refuse(t testing.TB, c call, want api.Errno) {
	t.Helper()
	before := b.disk.Clone()
	b.disk.Fail(0)
	if err := c.on(b.origin); err != want {
		t.Fatalf("%v of %v = %d, want %d", c, b.site, err, want)
	}
	if b.disk.Dead() {
		t.Fatalf("%v of %v does something on the disk", c, b.site)
	}
	b.disk.Fail(-1)
	checkDisks(t, b.disk, before)
	checkOrigin(t, b.origin, b.plain)
	die(before)
	if err := c.on(b.mustOf(t, before)); err != want {
		t.Fatalf("%v of %v on a dead disk = %d, want %d", c, b.site, err, want)
	}
}

// die lets a disk be dead; what is pending stays so.
func die(d *disk.Disk) {
	d.Fail(0)
	d.Flush()
}
