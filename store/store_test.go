package store

import (
	"math"
	"slices"
	"strings"
	"testing"

	"oakum/api"
	"oakum/disk"
	"oakum/head"
	"oakum/layout"
	"oakum/page"
)

// edges are numbers that calls are asked with, whatever their argument means.
func edges() []int {
	return []int{
		math.MinInt, math.MinInt + 1, math.MinInt32, -1 << 32, -1<<32 + 4, -3, -2, -1, 0, 1, 2, 3, 4, 13, 14, 63, 64, 65, 128,
		greatestChunk - 1, greatestChunk, greatestChunk + 1, greatestChunk + 2, 1<<32 - 1, 1 << 32, 1<<32 + 4, 1 << 62, math.MaxInt - 1, math.MaxInt,
	}
}

// P14.1, S1: Create.

func TestCreate(t *testing.T) {
	for _, x := range sites() {
		d, p := x.junk(), x.plain()
		do := func(d *disk.Disk) api.Errno {
			_, err := Create(d, x.layout(t), x.at, x.gen)
			return err
		}
		checkThings(t, d, do, p.created())
		s := x.mustCreate(t, d)
		if d.Pending() != 0 {
			t.Errorf("%d writes are pending", d.Pending())
		}
		checkStore(t, s, p)
		checkStore(t, x.mustOpen(t, d), p)
		// Only its head and its pages are written.
		want := x.junk()
		for _, th := range p.created() {
			th.do(want)
		}
		if d.Bytes() != want.Bytes() {
			t.Error("other sectors are written")
		}
	}
}

// What stands there ahead of Create, also a store with the same generation, is no more.
func TestCreateOverAStore(t *testing.T) {
	for _, x := range sites() {
		b := x.benchOf(t, 3, 1)
		checkStore(t, x.mustCreate(t, b.disk), x.plain())
		checkStore(t, x.mustOpen(t, b.disk), x.plain())
		b = x.benchOf(t, 3, 1)
		b.do(t, spoiling())
		checkStore(t, x.mustCreate(t, b.disk), x.plain())
		checkStore(t, x.mustOpen(t, b.disk), x.plain())
	}
}

// A disk may have more sectors than the layout, and one of as many as the layout is enough.
func TestDisksOfManySizes(t *testing.T) {
	for _, x := range sites() {
		for _, more := range []int{0, 1, 1000} {
			d := disk.New(x.parted.Sectors + more)
			checkStore(t, x.mustCreate(t, d), x.plain())
			checkStore(t, x.mustOpen(t, d), x.plain())
		}
	}
}

// All generations but 0 will do.
func TestGenerations(t *testing.T) {
	for _, gen := range []uint32{1, 2, 255, 256, 1 << 16, 1<<31 - 1, 1 << 31, greatestGen - 1, greatestGen} {
		x := small()
		x.gen = gen
		d := x.junk()
		checkStore(t, x.mustCreate(t, d), x.plain())
		b := &bench{plain: x.plain(), disk: d, store: x.mustOpen(t, d)}
		b.do(t, adding(x.copiesOf("a", 4, 2)...))
	}
}

// making is Create or Open.
type making func(d *disk.Disk, l layout.Layout, at api.Extent, gen uint32) (*Store, api.Errno)

// checkNone holds that a making tells an error, and that nothing is done: with no fuse left, what is done would be a crash.
func checkNone(t *testing.T, make making, d *disk.Disk, l layout.Layout, at api.Extent, gen uint32, want api.Errno) {
	t.Helper()
	before, dead := d.Clone(), d.Dead()
	if !dead {
		d.Fail(0)
	}
	if s, err := make(d, l, at, gen); s != nil || err != want {
		t.Errorf("of %v, %v, %d: %v, %d, want %d", l.Super, at, gen, s, err, want)
	}
	if d.Dead() != dead {
		t.Errorf("of %v, %v, %d: something is done", l.Super, at, gen)
	}
	if !dead {
		d.Fail(-1)
		if d != nil {
			checkDisks(t, d, before)
		}
	}
}

// What both refuse ahead of the disk's error, and in which order.
func TestCreateAndOpenRefuse(t *testing.T) {
	x := small()
	l := x.layout(t)
	none, outside, cut := layout.Layout{}, api.Extent{Start: 36, Len: 8}, api.Extent{Start: 40, Len: 3}
	for _, make := range []making{Create, Open} {
		full := func() *disk.Disk { return x.bench(t).disk }
		short := func() *disk.Disk { return disk.Load(full().Bytes()[:59*sectorSize]) }
		dead := func(d *disk.Disk) *disk.Disk {
			die(d)
			return d
		}
		for _, d := range []*disk.Disk{full(), short(), dead(full()), dead(short()), nil, disk.New(0)} {
			checkNone(t, make, d, l, x.at, 0, api.ErrArg)
			checkNone(t, make, d, none, x.at, 0, api.ErrArg)
			checkNone(t, make, d, none, x.at, 5, api.ErrArg)
			checkNone(t, make, d, none, outside, 5, api.ErrArg)
			checkNone(t, make, d, l, outside, 0, api.ErrArg)
			checkNone(t, make, d, l, cut, 0, api.ErrArg)
		}
		for _, d := range []*disk.Disk{full(), short(), dead(full()), dead(short()), disk.New(0)} {
			checkNone(t, make, d, l, outside, 5, api.ErrRange)
			checkNone(t, make, d, l, cut, 5, api.ErrSpace)
		}
		for _, d := range []*disk.Disk{short(), dead(short()), disk.New(0), disk.New(47)} {
			checkNone(t, make, d, l, x.at, 5, api.ErrRange)
		}
		checkNone(t, make, nil, l, x.at, 5, api.ErrArg)
		checkNone(t, make, nil, l, outside, 5, api.ErrArg)
		checkNone(t, make, dead(full()), l, x.at, 5, api.ErrCrash)
		checkNone(t, make, dead(x.junk()), l, x.at, 5, api.ErrCrash)
	}
}

// The sectors of a store are told by 10, whatever they are.
func TestSectorsOfAStore(t *testing.T) {
	x := small()
	l := x.layout(t)
	for _, make := range []making{Create, Open} {
		for _, start := range append(edges(), 36, 37, 38, 52, 56, 57, 59, 60, 61) {
			for _, length := range append(edges(), 5, 8, 20, 22, 23, 24) {
				at := api.Extent{Start: start, Len: length}
				room, want := l.Room(at)
				if want == api.OK {
					d := x.junk()
					if _, err := Create(d, l, at, 5); err != api.OK {
						t.Errorf("Create at %v = %d", at, err)
					}
					if s, err := make(d, l, at, 5); err != api.OK || s.Left() != room {
						t.Errorf("at %v: %d, %d, want %d", at, s.Left(), err, room)
					}
					continue
				}
				checkNone(t, make, x.junk(), l, at, 5, want)
			}
		}
	}
}

// A layout that Of did not tell is none, whatever it says.
func TestLayoutsThatMayNotBe(t *testing.T) {
	for _, s := range []api.Super{{}, {Sectors: 60, Origin: 20}, {Sectors: 60, Origin: 20, Chunk: 129}, {Sectors: 60, Origin: 20, Chunk: -2}, {Sectors: 36, Origin: 20, Chunk: 2}, {Sectors: 1<<20 + 1, Origin: 20, Chunk: 2}, {Sectors: 60, Chunk: 2}} {
		l := layout.Layout{Super: s}
		for _, make := range []making{Create, Open} {
			checkNone(t, make, small().bench(t).disk, l, small().at, 5, api.ErrArg)
		}
	}
}

// P14.1, S1: Open.

// checkCorrupt holds that no store stands on a disk.
func checkCorrupt(t *testing.T, x site, d *disk.Disk, what string) {
	t.Helper()
	before := d.Clone()
	d.Fail(0)
	if s, err := x.open(t, d); s != nil || err != api.ErrCorrupt || d.Dead() {
		t.Errorf("%s: Open = %v, %d, want ErrCorrupt", what, s, err)
	}
	d.Fail(-1)
	checkDisks(t, d, before)
	// Ahead of what stands there comes that nothing can be read.
	die(d)
	if s, err := x.open(t, d); s != nil || err != api.ErrCrash {
		t.Errorf("%s: Open on a dead disk = %v, %d", what, s, err)
	}
}

// mustWrite writes a sector, and flushes.
func mustWrite(t testing.TB, d *disk.Disk, sector int, data string) {
	t.Helper()
	if err := d.Write(sector, data); err != api.OK {
		t.Fatalf("Write(%d) = %d", sector, err)
	}
	if err := d.Flush(); err != api.OK {
		t.Fatalf("Flush = %d", err)
	}
}

// turned is a text with one bit turned over.
func turned(s string, bit int) string {
	b := []byte(s)
	b[bit/8] ^= 1 << (bit % 8)
	return string(b)
}

func TestOpenWhatHoldsNoStore(t *testing.T) {
	for _, x := range sites() {
		checkCorrupt(t, x, x.junk(), "junk")
		checkCorrupt(t, x, disk.New(x.parted.Sectors), "bytes 0")
	}
}

func TestOpenOfAnotherGeneration(t *testing.T) {
	for _, invalid := range []bool{false, true} {
		for _, x := range sites() {
			b := x.benchOf(t, 1, 2)
			if invalid {
				b.do(t, spoiling())
			}
			for _, gen := range []uint32{1, 2, 4, 5, 6, 7, 1<<16 + 5, 1<<24 + 5, greatestGen - 1, greatestGen} {
				if gen != x.gen {
					other := x
					other.gen = gen
					checkCorrupt(t, other, b.disk.Clone(), "another generation")
				}
			}
		}
	}
}

// headOf is the sector of a head.
func headOf(t *testing.T, h api.Head) string {
	t.Helper()
	s, err := head.Encode(h)
	if err != api.OK {
		t.Fatalf("head.Encode(%v) = %d", h, err)
	}
	return s
}

func TestOpenHeads(t *testing.T) {
	for _, x := range sites() {
		mine := api.Head{Gen: x.gen, Chunk: x.parted.Chunk, Cap: len(x.chunks)}
		for _, invalid := range []bool{false, true} {
			mine.Invalid = invalid
			others := []api.Head{mine, mine, mine, mine, mine, mine, mine}
			others[0].Gen ^= 1 << 20
			others[1].Chunk++
			others[2].Chunk = 128
			others[3].Cap++
			others[4].Cap--
			others[5].Cap = 1 << 20
			others[6].Cap += 1 << 16
			for _, h := range others {
				b := x.benchOf(t, 1, 2)
				mustWrite(t, b.disk, x.head, headOf(t, h))
				checkCorrupt(t, x, b.disk, "another head")
			}
			for bit := range 8 * sectorSize {
				b := x.bench(t)
				mustWrite(t, b.disk, x.head, turned(headOf(t, mine), bit))
				checkCorrupt(t, x, b.disk, "a head with a bit turned")
			}
			b := x.benchOf(t, 1, 2)
			mustWrite(t, b.disk, x.head, headOf(t, mine))
			s := x.mustOpen(t, b.disk)
			if s.Invalid() != invalid || invalid && (s.Left() != 0 || len(s.All()) != 0) || !invalid && len(s.All()) != 2 {
				t.Errorf("invalid %t, %d left, %v", s.Invalid(), s.Left(), s.All())
			}
		}
	}
}

// pageOf is the sector of a page.
func pageOf(t *testing.T, gen uint32, numbers []int) string {
	t.Helper()
	s, err := page.Encode(gen, numbers...)
	if err != api.OK {
		t.Fatalf("page.Encode(%d, %v) = %d", gen, numbers, err)
	}
	return s
}

// wrongPages are sectors that can't stand where a site's i-th page does, beside pages whose first places have the chunks
// that TestOpenPages puts there.
func wrongPages(t *testing.T, x site, i int) map[string]string {
	own := min(len(x.chunks)-i*pageEntries, pageEntries)
	with := func(gen uint32, at, chunk int) string {
		numbers := slices.Repeat([]int{-1}, pageEntries)
		numbers[0], numbers[at] = 100+i, chunk
		return pageOf(t, gen, numbers)
	}
	l := map[string]string{
		"junk":               sectorOf("page"),
		"bytes 0":            strings.Repeat("\x00", sectorSize),
		"a head":             headOf(t, api.Head{Gen: x.gen, Chunk: x.parted.Chunk, Cap: len(x.chunks)}),
		"one more":           with(x.gen+1, 0, 100+i),
		"another generation": with(x.gen^1<<24, 0, 100+i),
		"generation 0":       with(0, 0, 100+i),
	}
	for other := range x.pages {
		if other != i && own > 1 {
			l["a chunk that another page has"] = with(x.gen, 1, 100+other)
		} else if other != i {
			l["a chunk that another page has"] = with(x.gen, 0, 100+other)
		}
	}
	if own > 1 {
		l["a chunk twice"] = with(x.gen, own-1, 100+i)
	}
	if own < pageEntries {
		l["a place that is none's"] = with(x.gen, own, 7)
		l["the last place, that is none's"] = with(x.gen, pageEntries-1, 7)
	}
	for _, bit := range []int{0, 31, 32, 100, 479, 480, 511} {
		l["a bit turned, "+string(rune('a'+bit%26))] = turned(with(x.gen, 0, 100+i), bit)
	}
	return l
}

func TestOpenPages(t *testing.T) {
	for _, x := range sites() {
		right := x.junk()
		p := x.plain()
		mustWrite(t, right, x.head, headOf(t, api.Head{Gen: x.gen, Chunk: x.parted.Chunk, Cap: len(x.chunks)}))
		for i := range x.pages {
			p.places[i*pageEntries] = 100 + i
			p.bytes[i*pageEntries] = read(t, right, x.chunks[i*pageEntries], x.parted.Chunk)
			th := p.pageThing(i)
			mustWrite(t, right, th.sector, th.data)
		}
		checkStore(t, x.mustOpen(t, right), p)
		for i := range x.pages {
			for what, data := range wrongPages(t, x, i) {
				d := right.Clone()
				mustWrite(t, d, x.pages[i], data)
				checkCorrupt(t, x, d, what)
				// Of an invalid store no page is looked at.
				p := x.plain()
				p.spoil()
				th := p.headThing()
				d = right.Clone()
				mustWrite(t, d, x.pages[i], data)
				mustWrite(t, d, th.sector, th.data)
				checkStore(t, x.mustOpen(t, d), p)
			}
		}
	}
}

// read is sectors of a disk.
func read(t testing.TB, d *disk.Disk, sector, n int) string {
	t.Helper()
	s, err := d.Read(sector, n)
	if err != api.OK {
		t.Fatalf("Read(%d, %d) = %d", sector, n, err)
	}
	return s
}

// A page may have chunks that no origin has: 12 tells what can be one, not 5. And its places may be used in any order.
func TestOpenOfAnyTable(t *testing.T) {
	x := wide()
	d, p := x.junk(), x.plain()
	for i, chunk := range []int{-1, greatestChunk, -1, 0, -1, -1, 77, -1, -1, -1, -1, -1, 12, 5} {
		p.places[i] = chunk
		p.bytes[i] = read(t, d, x.chunks[i], 1)
	}
	for _, th := range p.created() {
		th.do(d)
	}
	b := &bench{plain: p, disk: d, store: x.mustOpen(t, d)}
	b.check(t)
	b.do(t, adding(x.copiesOf("more", 1, 2, 3, 4, 6, 7)...))
	b.do(t, removing(greatestChunk, 5, 7))
	b.do(t, adding(x.copiesOf("again", 9, 8)...))
}

// Nothing is done on the disk by Open, also where writes are pending: they are read.
func TestOpenWithPendingWrites(t *testing.T) {
	x := small()
	b := x.benchOf(t, 4, 1)
	b.do(t, writing(4, 1, sectorOf("pending")))
	before := b.disk.Clone()
	b.disk.Fail(0)
	s := x.mustOpen(t, b.disk)
	checkStore(t, s, b.plain)
	if b.disk.Dead() || b.disk.Pending() != 1 {
		t.Errorf("dead %t, %d pending", b.disk.Dead(), b.disk.Pending())
	}
	b.disk.Fail(-1)
	checkDisks(t, b.disk, before)
}

// P14.1, S2: Read, Write.

func TestRead(t *testing.T) {
	for _, x := range sites() {
		b := x.benchOf(t, 9, 4, 7)
		b.do(t, removing(4))
		before := b.disk.Clone()
		b.disk.Fail(0)
		for _, origin := range append(edges(), 9, 7) {
			for _, from := range edges() {
				for _, n := range edges() {
					checkRead(t, b.store, b.plain, origin, from, n)
				}
			}
		}
		if b.disk.Dead() {
			t.Error("Read does something on the disk")
		}
		b.disk.Fail(-1)
		checkDisks(t, b.disk, before)
	}
}

// The errors ahead of the disk's are told on a dead one too; of no sector at all the disk's is.
func TestReadOfADeadDisk(t *testing.T) {
	x := small()
	b := x.benchOf(t, 4, 1)
	s := x.mustOpen(t, b.disk)
	die(b.disk)
	for _, c := range []struct {
		origin, from, n int
		want            api.Errno
	}{{4, 0, 2, api.ErrCrash}, {4, 0, 0, api.ErrCrash}, {4, 2, 0, api.ErrCrash}, {4, 2, 1, api.ErrRange}, {4, -1, 1, api.ErrRange}, {4, 0, -1, api.ErrRange}, {5, 0, 1, api.ErrNone}, {5, 7, -1, api.ErrNone}} {
		if data, err := s.Read(c.origin, c.from, c.n); data != "" || err != c.want {
			t.Errorf("Read(%d, %d, %d) = %q, %d, want %d", c.origin, c.from, c.n, data, err, c.want)
		}
	}
}

func TestWrite(t *testing.T) {
	for _, x := range sites() {
		b := x.benchOf(t, 9, 4, 7)
		chunk := x.parted.Chunk
		for _, origin := range []int{9, 4, 7} {
			b.do(t, writing(origin, 0, sectorsOf("whole", chunk, origin)))
			b.do(t, writing(origin, 0, sectorOf("head", origin)))
			b.do(t, writing(origin, chunk-1, sectorOf("tail", origin)))
			b.do(t, writing(origin, 0, ""))
			b.do(t, writing(origin, chunk, ""))
		}
		if want := 3 * (chunk + 2); b.disk.Pending() != want {
			t.Errorf("%d writes are pending, want %d", b.disk.Pending(), want)
		}
		b.do(t, removing(4))
		b.refuse(t, writing(4, 0, sectorOf("gone")), api.ErrNone)
	}
}

func TestWriteRefuses(t *testing.T) {
	for _, x := range sites() {
		b := x.benchOf(t, 9, 4, 7)
		chunk, one := x.parted.Chunk, sectorOf("one")
		for _, cut := range []string{"x", one[:63], one + "x", strings.Repeat(one, chunk) + "x", strings.Repeat(one, chunk+1)[1:]} {
			b.refuse(t, writing(9, 0, cut), api.ErrArg)
			b.refuse(t, writing(9, -1, cut), api.ErrArg)
			b.refuse(t, writing(9, chunk+1, cut), api.ErrArg)
			b.refuse(t, writing(5, 0, cut), api.ErrNone)
			b.refuse(t, writing(-1, -1, cut), api.ErrNone)
		}
		for _, from := range edges() {
			for _, n := range []int{0, 1, chunk, chunk + 1, chunk + 128} {
				if from < 0 || from > chunk || n > chunk-from {
					b.refuse(t, writing(9, from, strings.Repeat(one, n)), api.ErrRange)
				}
				b.refuse(t, writing(5, from, strings.Repeat(one, n)), api.ErrNone)
			}
		}
		for _, origin := range edges() {
			if origin != 4 {
				b.refuse(t, writing(origin, 0, one), api.ErrNone)
			}
		}
		b.onDead(t, writing(9, 0, one), api.ErrCrash)
		b.onDead(t, writing(9, 0, ""), api.ErrCrash)
	}
}

// P14.1, S3: Add.

func TestAdd(t *testing.T) {
	for _, x := range sites() {
		b := x.bench(t)
		b.do(t, adding())
		b.do(t, adding(x.copyOf(greatestChunk, "a")))
		b.do(t, adding(x.copiesOf("b", 0, 1)...))
		for origin := 2; b.left() > 0; origin++ {
			b.do(t, adding(x.copyOf(origin, "c")))
		}
		b.refuse(t, adding(x.copyOf(1000, "d")), api.ErrSpace)
		b.do(t, adding())
	}
}

// As many at once as are free, in any order of their chunks, and one more.
func TestAddAll(t *testing.T) {
	for _, x := range sites() {
		b := x.bench(t)
		var l []Copy
		for i := range x.chunks {
			l = append(l, x.copyOf(i*7%len(x.chunks)*3, "all"))
		}
		if len(l) == 14 { // 7 is no number by which all of 14 are gone through
			l = x.copiesOf("all", 13, 0, 12, 1, 11, 2, 10, 3, 9, 4, 8, 5, 7, 6)
		}
		b.refuse(t, adding(append(slices.Clone(l), x.copyOf(1000, "more"))...), api.ErrSpace)
		b.do(t, adding(l...))
		b.do(t, removing(l[1].Origin))
		b.refuse(t, adding(x.copiesOf("two", l[1].Origin, 1000)...), api.ErrSpace)
		b.do(t, adding(x.copyOf(1000, "one")))
	}
}

// Places that are free again are taken first, in order, also on two pages at once.
func TestAddAtPlacesThatAreFreeAgain(t *testing.T) {
	for _, x := range []site{wide(), full(), long()} {
		b := x.bench(t)
		var l []Copy
		for i := range x.chunks {
			l = append(l, x.copyOf(100+i, "all"))
		}
		b.do(t, adding(l...))
		b.do(t, removing(113, 105, 100, 112))
		b.do(t, adding(x.copiesOf("again", 9, 8, 7)...))
		b.do(t, adding(x.copiesOf("again", 6)...))
		if want := []api.Entry{{Origin: 6, Index: 13}, {Origin: 7, Index: 12}, {Origin: 8, Index: 5}, {Origin: 9, Index: 0}}; !slices.Equal(b.store.All()[:4], want) {
			t.Errorf("%v, want %v", b.store.All()[:4], want)
		}
	}
}

// A chunk that was removed can be added again, with other bytes.
func TestAddAgain(t *testing.T) {
	for _, x := range sites() {
		b := x.benchOf(t, 4, 1)
		b.do(t, removing(4))
		b.do(t, adding(x.copyOf(2, "a"), x.copyOf(4, "b")))
		b.refuse(t, adding(x.copyOf(4, "c")), api.ErrArg)
	}
}

// wrongCopies are lists that may not be added to a store with the chunks 4 and 1.
func wrongCopies(x site) [][]Copy {
	good := x.copyOf(2, "good")
	bad := []Copy{x.copyOf(4, "there"), x.copyOf(1, "there"), {Origin: 2}, {Origin: 2, Data: good.Data[1:]}, {Origin: 2, Data: good.Data + "x"}, {Origin: 2, Data: good.Data[sectorSize:]}, {Origin: 2, Data: good.Data + sectorOf("x")}}
	for _, origin := range edges() {
		if origin < 0 || origin > greatestChunk {
			bad = append(bad, x.copyOf(origin, "none"))
		}
	}
	var l [][]Copy
	for _, c := range bad {
		other := x.copyOf(3, "good")
		l = append(l, []Copy{c}, []Copy{c, other}, []Copy{other, c}, slices.Concat(many(x), []Copy{c}), slices.Concat([]Copy{c}, many(x)))
	}
	return append(l, []Copy{good, good}, []Copy{good, x.copyOf(3, "good"), x.copyOf(2, "other")}, slices.Concat(many(x), many(x)), slices.Concat(many(x), many(x)[:1]))
}

// many are more copies than there is room for.
func many(x site) []Copy {
	var l []Copy
	for i := range len(x.chunks) + 1 {
		l = append(l, x.copyOf(500+i, "many"))
	}
	return l
}

func TestAddRefuses(t *testing.T) {
	for _, x := range sites() {
		b := x.benchOf(t, 4, 1)
		for _, l := range wrongCopies(x) {
			b.refuse(t, adding(l...), api.ErrArg)
		}
		b.refuse(t, adding(many(x)...), api.ErrSpace)
		b.refuse(t, adding(many(x)[:b.left()+1]...), api.ErrSpace)
		b.onDead(t, adding(many(x)[:1]...), api.ErrCrash)
		b.onDead(t, adding(), api.OK)
		b.do(t, adding(many(x)[:b.left()]...))
		for _, l := range wrongCopies(x) {
			b.refuse(t, adding(l...), api.ErrArg)
		}
		b.refuse(t, adding(x.copyOf(2, "one")), api.ErrSpace)
	}
}

// P14.1, S3: Remove.

func TestRemove(t *testing.T) {
	for _, x := range sites() {
		b := x.bench(t)
		var l []Copy
		for i := range x.chunks {
			l = append(l, x.copyOf(100+i, "all"))
		}
		b.do(t, removing())
		b.do(t, adding(l...))
		b.do(t, removing())
		b.do(t, removing(101))
		b.do(t, removing(100+len(l)-1, 100))
		b.do(t, adding(l[0], l[1], l[len(l)-1]))
		all := b.origins()
		slices.Reverse(all)
		b.do(t, removing(all...))
		b.do(t, removing())
		b.refuse(t, removing(101), api.ErrNone)
		b.do(t, adding(l...))
	}
}

// Each page that is changed is written once, rising, whatever the order of the places.
func TestRemoveOnManyPages(t *testing.T) {
	x := long()
	b := x.bench(t)
	var l []Copy
	for i := range x.chunks {
		l = append(l, x.copyOf(100+i, "all"))
	}
	b.do(t, adding(l...))
	b.do(t, removing(152, 126, 100, 125, 151, 112, 113))
	b.do(t, adding(l[0], l[12], l[25]))
	b.do(t, adding(l[51], l[13], l[52], l[26]))
	b.do(t, removing(138, 139))
}

func TestRemoveRefuses(t *testing.T) {
	for _, x := range sites() {
		b := x.benchOf(t, 4, 1, 7)
		b.do(t, removing(7))
		for _, origin := range append(edges(), 7) {
			if origin == 4 || origin == 1 {
				continue
			}
			b.refuse(t, removing(origin), api.ErrNone)
			b.refuse(t, removing(4, origin), api.ErrNone)
			b.refuse(t, removing(origin, 4), api.ErrNone)
			b.refuse(t, removing(1, origin, 4), api.ErrNone)
		}
		b.refuse(t, removing(4, 4), api.ErrNone)
		b.refuse(t, removing(4, 1, 4), api.ErrNone)
		b.refuse(t, removing(1, 4, 1), api.ErrNone)
		b.onDead(t, removing(4), api.ErrCrash)
		b.onDead(t, removing(), api.OK)
	}
}

// P14.1, S3: Spoil, and what is told of an invalid store.

func TestSpoil(t *testing.T) {
	for _, x := range sites() {
		for _, origins := range [][]int{nil, {4}, {4, 1, 7}} {
			b := x.benchOf(t, origins...)
			b.do(t, spoiling())
			b.refuseAll(t)
			b.do(t, spoiling())
			b.refuseAll(t)
			b.onDead(t, spoiling(), api.ErrCrash)
		}
	}
}

// refuseAll holds that all is refused by an invalid store, ahead of all else that is wrong.
func (b *bench) refuseAll(t *testing.T) {
	t.Helper()
	for _, origin := range append(edges(), 4, 1, 7) {
		for _, from := range []int{math.MinInt, -1, 0, 1, math.MaxInt} {
			for _, data := range []string{"", "x", sectorOf("x")} {
				b.refuse(t, writing(origin, from, data), api.ErrInvalid)
				b.refuse(t, adding(Copy{origin, data}, Copy{origin, data}), api.ErrInvalid)
			}
			checkRead(t, b.store, b.plain, origin, from, -1)
			checkRead(t, b.store, b.plain, origin, from, 1)
		}
		b.refuse(t, removing(origin), api.ErrInvalid)
		b.refuse(t, removing(origin, origin), api.ErrInvalid)
		b.refuse(t, adding(b.copyOf(origin, "right")), api.ErrInvalid)
	}
	b.refuse(t, adding(), api.ErrInvalid)
	b.refuse(t, removing(), api.ErrInvalid)
	b.refuse(t, adding(many(b.site)...), api.ErrInvalid)
}

// The rules that hold everywhere: a nil store.

func TestANilStore(t *testing.T) {
	var s *Store
	if s.Invalid() || s.Left() != 0 || len(s.All()) != 0 {
		t.Errorf("a nil store: invalid %t, %d left, %v", s.Invalid(), s.Left(), s.All())
	}
	calls := []call{adding(), removing(), spoiling(), adding(small().copyOf(4, "a")), adding(Copy{-1, "x"}), removing(4), removing(4, 4)}
	for _, n := range edges() {
		if s.Has(n) {
			t.Errorf("a nil store has %d", n)
		}
		for _, data := range []string{"", "x", sectorOf("x")} {
			calls = append(calls, writing(n, n, data), writing(4, n, data), adding(Copy{n, data}))
		}
		if data, err := s.Read(n, n, n); data != "" || err != api.ErrArg {
			t.Errorf("Read(%d) of a nil store = %q, %d", n, data, err)
		}
	}
	for _, c := range calls {
		if err := c.on(s); err != api.ErrArg {
			t.Errorf("%v of a nil store = %d, want ErrArg", c, err)
		}
	}
}

// Rule 4: what is handed in is neither written into nor kept nor read behind its length; what is answered is new.

func TestWhatAllTellsMayBeWrittenTo(t *testing.T) {
	b := wide().benchOf(t, 9, 4, 7)
	all := b.store.All()
	for i := range all {
		all[i] = api.Entry{Origin: 50, Index: 50}
	}
	all = append(all[:0], api.Entry{Origin: 60, Index: 1}, api.Entry{Origin: 61, Index: 2})
	b.check(t)
	kept := b.store.All()
	b.do(t, removing(4))
	b.do(t, adding(b.copiesOf("more", 1, 2)...))
	if want := []api.Entry{{Origin: 4, Index: 1}, {Origin: 7, Index: 2}, {Origin: 9, Index: 0}}; !slices.Equal(kept, want) {
		t.Errorf("what was told is %v now, want %v: %v", kept, want, all)
	}
}

func TestWhatIsHandedInStays(t *testing.T) {
	x := wide()
	b := x.bench(t)
	copies := x.copiesOf("a", 9, 4, 7, 9, 4)
	given := slices.Clone(copies)
	b.do(t, adding(copies[:3]...))
	if !slices.Equal(copies, given) {
		t.Errorf("the copies are %v now", copies)
	}
	for i := range copies {
		copies[i] = x.copyOf(1, "b")
	}
	b.check(t)
	origins := []int{9, 4, 9, 77}
	b.do(t, removing(origins[:2]...))
	if !slices.Equal(origins, []int{9, 4, 9, 77}) {
		t.Errorf("the chunks are %v now", origins)
	}
	origins[0] = 7
	b.check(t)
}

// What was read stays what it was.
func TestWhatWasReadStays(t *testing.T) {
	b := small().benchOf(t, 4, 1)
	want, _ := b.read(4, 0, 2)
	got, _ := b.store.Read(4, 0, 2)
	b.do(t, writing(4, 0, sectorsOf("other", 2)))
	b.do(t, removing(4))
	b.do(t, adding(b.copyOf(2, "next")))
	if got != want {
		t.Errorf("what was read is %q now", got)
	}
}

// Chunks of the most sectors, of the fewest, and the greatest store.

func TestChunksOfTheMostSectors(t *testing.T) {
	x := site{
		parted: api.Super{Sectors: 278, Origin: 3, Chunk: 128}, at: api.Extent{Start: 20, Len: 258}, gen: 3,
		head: 20, pages: []int{21}, chunks: []int{22, 150},
	}
	b := x.bench(t)
	b.do(t, adding(x.copyOf(3, "a")))
	b.do(t, writing(3, 127, sectorOf("last")))
	b.do(t, writing(3, 1, sectorsOf("most", 127)))
	b.refuse(t, writing(3, 2, sectorsOf("most", 127)), api.ErrRange)
	b.do(t, adding(x.copyOf(0, "b")))
	b.do(t, removing(3, 0))
	b.do(t, adding(x.copiesOf("c", 1, 2)...))
}

func TestTheGreatestStore(t *testing.T) {
	const most = 1 << 20
	l, err := layout.Of(api.Super{Sectors: most, Origin: 1, Chunk: 1})
	if err != api.OK {
		t.Fatal(err)
	}
	d, at := disk.New(most), l.Stores()
	s, err := Create(d, l, at, 9)
	room, _ := l.Room(at)
	if err != api.OK || s.Left() != room || room < 900000 {
		t.Fatalf("Create = %d, %d left of %d", err, s.Left(), room)
	}
	var copies []Copy
	for i := range room {
		copies = append(copies, Copy{Origin: room - i, Data: sectorOf("copy", i)})
	}
	if err := s.Add(copies...); err != api.OK || s.Left() != 0 {
		t.Fatalf("Add = %d, %d left", err, s.Left())
	}
	if err := s.Remove(1, room); err != api.OK || s.Left() != 2 {
		t.Fatalf("Remove = %d, %d left", err, s.Left())
	}
	s, err = Open(d, l, at, 9)
	if err != api.OK || s.Left() != 2 || len(s.All()) != room-2 {
		t.Fatalf("Open = %d, %d left", err, s.Left())
	}
	if data, err := s.Read(2, 0, 1); data != sectorOf("copy", room-2) || err != api.OK {
		t.Errorf("Read = %q, %d", data, err)
	}
	if err := s.Add(Copy{Origin: most, Data: sectorOf("next")}); err != api.OK || !slices.Contains(s.All(), api.Entry{Origin: most, Index: 0}) {
		t.Errorf("Add = %d", err)
	}
}

// Two stores on one disk, and one on another one, are apart.
func TestStoresAreApart(t *testing.T) {
	x, y := small(), small()
	y.at, y.gen, y.head, y.pages, y.chunks = api.Extent{Start: 48, Len: 6}, 6, 48, []int{49}, []int{50, 52}
	one := x.bench(t)
	two := &bench{plain: y.plain(), disk: one.disk, store: y.mustCreate(t, one.disk)}
	far := x.bench(t)
	for _, step := range []struct {
		b *bench
		c call
	}{
		{one, adding(x.copiesOf("a", 4, 1)...)}, {two, adding(y.copiesOf("b", 4, 2)...)}, {far, adding(x.copiesOf("c", 3)...)}, {one, writing(4, 1, sectorOf("d"))}, {two, removing(4)}, {one, removing(1)},
		{two, adding(y.copiesOf("e", 1)...)}, {far, spoiling()}, {one, adding(x.copiesOf("f", 9, 8)...)}, {two, spoiling()},
	} {
		step.b.do(t, step.c)
		one.check(t)
		two.check(t)
		far.check(t)
	}
}
