package origin

import (
	"slices"
	"strings"
	"testing"

	"oakum/api"
	"oakum/disk"
	"oakum/layout"
)

// P15.1, O1: Of.

// A disk may have more sectors than the layout, and one of as many as the layout is enough. Nothing is done on it.
func TestOf(t *testing.T) {
	for _, x := range sites() {
		for _, more := range []int{0, 1, 2, 1000} {
			d := disk.New(x.sectors + more)
			d.Write(first, sectorsOf("pending", 1))
			before := d.Clone()
			d.Fail(0)
			o, err := Of(d, x.layout(t))
			if o == nil || err != api.OK || d.Dead() {
				t.Errorf("Of %v, %d more = %v, %d, dead %t", x, more, o, err, d.Dead())
			}
			d.Fail(-1)
			checkDisks(t, d, before)
			checkOrigin(t, o, x.plain(d))
		}
	}
}

// The greatest disk, with the greatest origin, whose last chunk is cut short, and with the smallest one.
func TestOfTheGreatestDisk(t *testing.T) {
	d := disk.New(diskEnd)
	for _, x := range []site{{diskEnd, diskEnd - first, 128}, {diskEnd, 1, 128}, {diskEnd, diskEnd - first, 1}} {
		o := x.mustOf(t, d)
		last := len(x.chunks()) - 1
		here := len(x.chunks()[last]) // sectors
		data := sectorsOf("last", x.chunk)
		if err := o.Put(last, data); err != api.OK {
			t.Errorf("Put(%d) of %v = %d", last, x, err)
		}
		want := data[:here*sectorSize] + strings.Repeat("\x00", (x.chunk-here)*sectorSize)
		if got, err := o.Chunk(last); got != want || err != api.OK {
			t.Errorf("Chunk(%d) of %v = %q, %d", last, x, got, err)
		}
		if got, err := d.Read(first+x.origin-here, here); got != data[:here*sectorSize] || err != api.OK {
			t.Errorf("the last sectors of %v are %q, %d", x, got, err)
		}
		for _, c := range []int{last + 1, last + 2} {
			if err := o.Put(c, data); err != api.ErrRange {
				t.Errorf("Put(%d) of %v = %d", c, x, err)
			}
			if got, err := o.Chunk(c); got != "" || err != api.ErrRange {
				t.Errorf("Chunk(%d) of %v = %q, %d", c, x, got, err)
			}
		}
		if got, err := o.Read(0, x.origin); len(got) != x.origin*sectorSize || err != api.OK {
			t.Errorf("Read of all of %v has %d bytes, %d", x, len(got), err)
		}
	}
}

func checkNoOf(t *testing.T, d *disk.Disk, l layout.Layout, want api.Errno) {
	t.Helper()
	before, dead := d.Clone(), d.Dead()
	if !dead {
		d.Fail(0)
	}
	if o, err := Of(d, l); o != nil || err != want {
		t.Errorf("Of a disk of %d, %v = %v, %d, want %d", d.Sectors(), l.Super, o, err, want)
	}
	if d.Dead() != dead {
		t.Errorf("Of a disk of %d, %v does something", d.Sectors(), l.Super)
	}
	if d != nil {
		if !dead {
			d.Fail(-1)
		}
		checkDisks(t, d, before)
	}
}

func TestOfRefuses(t *testing.T) {
	dead := disk.New(40)
	die(dead)
	for _, d := range []*disk.Disk{nil, disk.New(0), disk.New(39), disk.New(40), disk.New(41), dead} {
		checkNoOf(t, d, layout.Layout{}, api.ErrArg)
	}
	for _, x := range sites() {
		checkNoOf(t, nil, x.layout(t), api.ErrArg)
		deadAndShort := disk.New(x.sectors - 1)
		die(deadAndShort)
		// As many sectors as the origin's and those ahead of it are too few, too, if there are stores behind them.
		for _, d := range []*disk.Disk{disk.New(0), disk.New(1), disk.New(first), disk.New(x.sectors - 1), deadAndShort} {
			checkNoOf(t, d, x.layout(t), api.ErrRange)
		}
	}
	for sectors := range 40 {
		checkNoOf(t, disk.New(sectors), site{40, 5, 2}.layout(t), api.ErrRange)
	}
}

// A layout whose superblock may not be is none, whatever it says.
func TestOfLayoutsThatMayNotBe(t *testing.T) {
	for _, s := range []api.Super{
		{}, {Sectors: 40}, {Sectors: 40, Origin: 5}, {Sectors: 40, Chunk: 2}, {Origin: 5, Chunk: 2}, {Sectors: 40, Origin: 5, Chunk: 129}, {Sectors: 40, Origin: 5, Chunk: -2},
		{Sectors: 40, Origin: -5, Chunk: 2}, {Sectors: 21, Origin: 5, Chunk: 2}, {Sectors: 40, Origin: 24, Chunk: 2}, {Sectors: diskEnd + 1, Origin: 5, Chunk: 2}, {Sectors: -40, Origin: 5, Chunk: 2},
	} {
		for _, d := range []*disk.Disk{nil, disk.New(0), disk.New(40), disk.New(100)} {
			checkNoOf(t, d, layout.Layout{Super: s}, api.ErrArg)
		}
	}
}

// An origin can be had of a dead disk: none of Of's errors is of that.
func TestOfADeadDisk(t *testing.T) {
	for _, x := range sites() {
		d := x.junk()
		p := x.plain(d)
		d.Write(first, sectorOf("lost"))
		die(d)
		o := x.mustOf(t, d)
		if _, err := o.Read(0, 1); err != api.ErrCrash || !d.Dead() {
			t.Errorf("Read of %v = %d, dead %t", x, err, d.Dead())
		}
		d.Restart()
		checkOrigin(t, o, p)
	}
}

// P15.1, O1: Read.

// All sectors from each on, and as many behind the last one, and ahead of the first one.
func TestReadAll(t *testing.T) {
	for _, x := range smallSites() {
		b := x.bench(t)
		for at := -3; at <= x.origin+3; at++ {
			for n := -3; n <= x.origin+3; n++ {
				checkRead(t, b.origin, b.plain, at, n)
			}
		}
	}
}

func TestReadAtEdges(t *testing.T) {
	for _, x := range sites() {
		b := x.bench(t)
		around := append(edges(), x.origin-1, x.origin, x.origin+1, x.sectors-first, x.sectors-first+1, x.sectors, x.sectors+1)
		for _, at := range around {
			for _, n := range around {
				checkRead(t, b.origin, b.plain, at, n)
			}
		}
	}
}

// Some of what stands in the chapter's words, written out.
func TestReadEdgesByHand(t *testing.T) {
	d := disk.Load(strings.Repeat("\x00", first*sectorSize) + sectorsOf("mine", 5) + sectorsOf("stores", 18))
	o := site{40, 5, 2}.mustOf(t, d)
	for _, c := range []struct {
		at, n int
		want  string
		err   api.Errno
	}{
		{0, 1, sectorOf("mine", 0), api.OK},
		{4, 1, sectorOf("mine", 4), api.OK},
		{0, 5, sectorsOf("mine", 5), api.OK},
		{1, 2, sectorOf("mine", 1) + sectorOf("mine", 2), api.OK},
		{0, 0, "", api.OK},
		{4, 0, "", api.OK},
		{5, 0, "", api.OK},
		{6, 0, "", api.ErrRange},
		{-1, 0, "", api.ErrRange},
		{0, -1, "", api.ErrRange},
		{5, -1, "", api.ErrRange},
		{5, 1, "", api.ErrRange},
		{4, 2, "", api.ErrRange},
		{0, 6, "", api.ErrRange},
		{-1, 1, "", api.ErrRange},
		{-1, 2, "", api.ErrRange},
		{6, -1, "", api.ErrRange},
		{-17, 1, "", api.ErrRange},
	} {
		if got, err := o.Read(c.at, c.n); got != c.want || err != c.err {
			t.Errorf("Read(%d, %d) = %q, %d, want %q, %d", c.at, c.n, got, err, c.want, c.err)
		}
	}
}

// What is pending is read: the last write of each sector.
func TestReadPending(t *testing.T) {
	for _, x := range sites() {
		b := x.bench(t)
		for i := range 3 {
			s := sectorOf("pending", i)
			b.disk.Write(first, s)
			b.disk.Write(first+x.origin-1, s)
			b.reads[0], b.reads[x.origin-1] = s, s
			checkOrigin(t, b.origin, b.plain)
		}
	}
}

// Reading is nothing that is done.
func TestReadDoesNothing(t *testing.T) {
	for _, x := range sites() {
		b := x.bench(t)
		b.disk.Write(first, sectorOf("pending"))
		b.reads[0] = sectorOf("pending")
		before := b.disk.Clone()
		b.disk.Fail(0)
		checkOrigin(t, b.origin, b.plain)
		checkChunk(t, b.origin, b.plain, -1)
		checkRead(t, b.origin, b.plain, -1, 1)
		checkDisks(t, b.disk, before)
	}
}

// On a dead disk ErrRange comes ahead of the disk's error, also of no sectors.
func TestReadOfADeadDisk(t *testing.T) {
	for _, x := range sites() {
		b := x.bench(t)
		die(b.disk)
		for at := -2; at <= x.origin+2; at++ {
			for _, n := range []int{-1, 0, 1, 2, x.origin, x.origin + 1} {
				want := api.ErrCrash
				if !b.has(at, n) {
					want = api.ErrRange
				}
				if got, err := b.origin.Read(at, n); got != "" || err != want {
					t.Errorf("Read(%d, %d) of %v = %q, %d, want %d", at, n, x, got, err, want)
				}
			}
		}
		for c := -2; c <= len(x.chunks())+2; c++ {
			want := api.ErrCrash
			if c < 0 || c >= len(x.chunks()) {
				want = api.ErrRange
			}
			if got, err := b.origin.Chunk(c); got != "" || err != want {
				t.Errorf("Chunk(%d) of %v = %q, %d, want %d", c, x, got, err, want)
			}
		}
	}
}

// P15.1, O1: Write.

// So many sectors from each on, also such as are not the origin's.
func TestWriteAll(t *testing.T) {
	for _, x := range smallSites() {
		for at := -3; at <= x.origin+3; at++ {
			for n := range x.origin + 4 {
				b := x.bench(t)
				c := writing(at, sectorsOf("new", n))
				if b.has(at, n) {
					b.do(t, c)
				} else {
					b.refuse(t, c, api.ErrRange)
				}
			}
		}
	}
}

func TestWriteAtEdges(t *testing.T) {
	for _, x := range sites() {
		for _, at := range append(edges(), x.origin-2, x.origin-1, x.origin, x.origin+1, x.sectors-first-1, x.sectors-first, x.sectors) {
			for _, n := range []int{0, 1, 2, x.origin, x.origin + 1} {
				b := x.bench(t)
				c := writing(at, sectorsOf("new", n))
				if b.has(at, n) {
					b.do(t, c)
				} else {
					b.refuse(t, c, api.ErrRange)
				}
			}
		}
	}
}

func TestWriteEdgesByHand(t *testing.T) {
	one, two, five := sectorsOf("new", 1), sectorsOf("new", 2), sectorsOf("new", 5)
	for _, c := range []struct {
		at   int
		data string
		want api.Errno
	}{
		{0, one, api.OK},
		{4, one, api.OK},
		{0, five, api.OK},
		{3, two, api.OK},
		{0, "", api.OK},
		{5, "", api.OK},
		{6, "", api.ErrRange},
		{-1, "", api.ErrRange},
		{5, one, api.ErrRange},
		{4, two, api.ErrRange},
		{1, five, api.ErrRange},
		{0, five + one, api.ErrRange},
		{-1, one, api.ErrRange},
		{-1, two, api.ErrRange},
		{0, one[1:], api.ErrArg},
		{0, one + "x", api.ErrArg},
		{0, "x", api.ErrArg},
		{5, "x", api.ErrArg},
		{-1, "x", api.ErrArg},
		{6, one[1:], api.ErrArg},
		{0, five + "x", api.ErrArg},
	} {
		b := site{40, 5, 2}.bench(t)
		if err := b.origin.Write(c.at, c.data); err != c.want {
			t.Errorf("Write(%d, %d bytes) = %d, want %d", c.at, len(c.data), err, c.want)
		}
	}
}

// Data that are no whole sectors are told ahead of where they are to stand, and of a dead disk.
func TestWriteNoWholeSectors(t *testing.T) {
	for _, x := range sites() {
		b := x.bench(t)
		for _, size := range []int{1, 2, 32, 63, 65, 127, 129, x.origin*sectorSize - 1, x.origin*sectorSize + 1, (x.origin+1)*sectorSize - 1} {
			data := strings.Repeat("x", size)
			for _, at := range []int{0, 1, x.origin - 1, x.origin, x.origin + 1, -1, edges()[0], edges()[len(edges())-1]} {
				b.refuse(t, writing(at, data), api.ErrArg)
			}
		}
	}
}

// Of sectors that are not all the origin's none is written: neither those that are its, nor what stands behind or ahead.
func TestWriteInPartOutside(t *testing.T) {
	for _, x := range sites() {
		b := x.bench(t)
		b.refuse(t, writing(x.origin-1, sectorsOf("new", 2)), api.ErrRange)
		b.refuse(t, writing(-1, sectorsOf("new", 2)), api.ErrRange)
		b.refuse(t, writing(0, sectorsOf("new", x.origin+1)), api.ErrRange)
	}
}

// On a dead disk what would be done is ErrCrash, also of no sectors.
func TestWriteOnADeadDisk(t *testing.T) {
	for _, x := range sites() {
		b := x.bench(t)
		b.origin.Write(0, sectorOf("pending"))
		die(b.disk)
		before := b.disk.Clone()
		for _, c := range []call{
			writing(0, ""), writing(x.origin, ""), writing(0, sectorOf("new")), writing(x.origin-1, sectorOf("new")), writing(0, sectorsOf("new", x.origin)),
			putting(0, sectorsOf("new", x.chunk)), putting(len(x.chunks())-1, sectorsOf("new", x.chunk)), flushing(),
		} {
			if err := c.on(b.origin); err != api.ErrCrash {
				t.Errorf("%v of %v = %d", c, x, err)
			}
		}
		checkDisks(t, b.disk, before)
	}
}

// P15.1, O1: Chunk.

func TestChunkAtEdges(t *testing.T) {
	for _, x := range sites() {
		b := x.bench(t)
		n := len(x.chunks())
		for _, c := range append(edges(), n-2, n-1, n, n+1, x.origin, x.sectors) {
			checkChunk(t, b.origin, b.plain, c)
		}
	}
}

func TestChunkByHand(t *testing.T) {
	d := disk.Load(strings.Repeat("\x00", first*sectorSize) + sectorsOf("mine", 5) + sectorsOf("stores", 18))
	o := site{40, 5, 2}.mustOf(t, d)
	nothing := strings.Repeat("\x00", sectorSize)
	for _, c := range []struct {
		c    int
		want string
		err  api.Errno
	}{
		{0, sectorOf("mine", 0) + sectorOf("mine", 1), api.OK},
		{1, sectorOf("mine", 2) + sectorOf("mine", 3), api.OK},
		{2, sectorOf("mine", 4) + nothing, api.OK},
		{3, "", api.ErrRange},
		{-1, "", api.ErrRange},
	} {
		if got, err := o.Chunk(c.c); got != c.want || err != c.err {
			t.Errorf("Chunk(%d) = %q, %d, want %q, %d", c.c, got, err, c.want, c.err)
		}
	}
	// An origin of less than a chunk has just that one.
	o = site{40, 5, 7}.mustOf(t, d)
	if got, err := o.Chunk(0); got != sectorsOf("mine", 5)+nothing+nothing || err != api.OK {
		t.Errorf("Chunk(0) = %q, %d", got, err)
	}
	if got, err := o.Chunk(1); got != "" || err != api.ErrRange {
		t.Errorf("Chunk(1) = %q, %d", got, err)
	}
	// One of whole chunks has none that is cut short.
	o = site{40, 4, 2}.mustOf(t, d)
	if got, err := o.Chunk(1); got != sectorOf("mine", 2)+sectorOf("mine", 3) || err != api.OK {
		t.Errorf("Chunk(1) = %q, %d", got, err)
	}
	if got, err := o.Chunk(2); got != "" || err != api.ErrRange {
		t.Errorf("Chunk(2) = %q, %d", got, err)
	}
}

// P15.1, O1: Put.

func TestPutEachChunk(t *testing.T) {
	for _, x := range sites() {
		b := x.bench(t)
		for c := range x.chunks() {
			b.do(t, putting(c, sectorsOf("new", x.chunk)))
		}
		for c := range x.chunks() {
			b.do(t, putting(c, sectorsOf("newer", x.chunk)))
			b.do(t, flushing())
		}
	}
}

func TestPutWhereNoChunkIs(t *testing.T) {
	for _, x := range sites() {
		b := x.bench(t)
		n := len(x.chunks())
		for _, c := range append(edges(), n, n+1, x.origin, x.sectors) {
			if c < 0 || c >= n {
				b.refuse(t, putting(c, sectorsOf("new", x.chunk)), api.ErrRange)
			}
		}
	}
}

// Bytes that are not as many as a full chunk's are told ahead of a chunk that is not there, and of a dead disk. Of a chunk
// that is cut short just its own are too few.
func TestPutOfOtherSizes(t *testing.T) {
	for _, x := range sites() {
		b := x.bench(t)
		n := len(x.chunks())
		cut := len(x.chunks()[n-1]) * sectorSize
		for _, size := range []int{0, 1, 63, 64, 65, 128, x.full() - sectorSize, x.full() - 1, x.full() + 1, x.full() + sectorSize, 2 * x.full(), x.origin * sectorSize, cut, cut + 1} {
			if size == x.full() {
				continue
			}
			data := strings.Repeat("x", size)
			for _, c := range []int{0, n - 1, n, n + 1, -1, edges()[0], edges()[len(edges())-1]} {
				b.refuse(t, putting(c, data), api.ErrArg)
			}
		}
	}
}

// P15.2: there and back.

// pattern is a chunk's bytes, none of which is 0.
func pattern(n, seed int) string {
	b := make([]byte, n)
	for i := range b {
		b[i] = byte(1 + (i*7+i/sectorSize*31+seed)%255)
	}
	return string(b)
}

// What is put is read, by Chunk and by Read; behind a chunk that is cut short stand zeros, whatever was put there.
func TestPutIsRead(t *testing.T) {
	for _, x := range sites() {
		for c, sectors := range x.chunks() {
			o := x.mustOf(t, x.junk())
			data := pattern(x.full(), c)
			if err := o.Put(c, data); err != api.OK {
				t.Fatalf("Put(%d) of %v = %d", c, x, err)
			}
			own := data[:len(sectors)*sectorSize]
			for range 2 { // pending, and flushed
				got, err := o.Chunk(c)
				if err != api.OK || len(got) != x.full() || got[:len(own)] != own || strings.Trim(got[len(own):], "\x00") != "" {
					t.Errorf("Chunk(%d) of %v = %q, %d", c, x, got, err)
				}
				if got, err := o.Read(sectors[0], len(sectors)); got != own || err != api.OK {
					t.Errorf("Read of chunk %d of %v = %q, %d", c, x, got, err)
				}
				o.Flush()
			}
		}
	}
}

// Of all sectors of the disk just those of the chunk are changed, once it is flushed; none ahead of that.
func TestPutChangesNothingElse(t *testing.T) {
	for _, x := range sites() {
		for c, sectors := range x.chunks() {
			d := x.junk()
			o := x.mustOf(t, d)
			before := d.Bytes()
			data := pattern(x.full(), c)
			o.Put(c, data)
			if d.Bytes() != before || d.Pending() != len(sectors) {
				t.Errorf("Put(%d) of %v: %d pending, something stands: %t", c, x, d.Pending(), d.Bytes() != before)
			}
			o.Flush()
			start, end := (first+sectors[0])*sectorSize, (first+sectors[0]+len(sectors))*sectorSize
			if want := before[:start] + data[:end-start] + before[end:]; d.Bytes() != want || d.Pending() != 0 {
				t.Errorf("Put(%d) of %v: %d pending, other sectors are changed", c, x, d.Pending())
			}
		}
	}
}

// The same of Write.
func TestWriteChangesNothingElse(t *testing.T) {
	for _, x := range smallSites() {
		for at := range x.origin {
			for n := range x.origin - at + 1 {
				d := x.junk()
				o := x.mustOf(t, d)
				before := d.Bytes()
				data := pattern(n*sectorSize, at)
				o.Write(at, data)
				if got, err := o.Read(at, n); got != data || err != api.OK {
					t.Errorf("Read(%d, %d) of %v = %q, %d", at, n, x, got, err)
				}
				if d.Bytes() != before || d.Pending() != n {
					t.Errorf("Write(%d) of %d of %v: %d pending, something stands: %t", at, n, x, d.Pending(), d.Bytes() != before)
				}
				o.Flush()
				start := (first + at) * sectorSize
				if want := before[:start] + data + before[start+len(data):]; d.Bytes() != want || d.Pending() != 0 {
					t.Errorf("Write(%d) of %d of %v: %d pending, other sectors are changed", at, n, x, d.Pending())
				}
			}
		}
	}
}

// What a Chunk tells can be put, and changes nothing then; put elsewhere it is read there.
func TestChunksThereAndBack(t *testing.T) {
	for _, x := range sites() {
		b := x.bench(t)
		for from := range x.chunks() {
			for to := range x.chunks() {
				data, err := b.origin.Chunk(from)
				if err != api.OK {
					t.Fatalf("Chunk(%d) of %v = %d", from, x, err)
				}
				b.do(t, putting(to, data))
			}
			b.do(t, putting(0, pattern(x.full(), from)))
		}
	}
}

// What was put ahead of another Put of the same chunk is no more; of other chunks it is.
func TestPutOverAndOver(t *testing.T) {
	for _, x := range sites() {
		b := x.bench(t)
		n := len(x.chunks())
		for i := range 20 {
			b.do(t, putting(i*i%n, pattern(x.full(), i)))
			if i%6 == 5 {
				b.do(t, flushing())
			}
		}
	}
}

// P15.1, O1: Flush, and what of pending writes stands if the power fails.

// Flush is the disk's: all that is pending stands then, also what isn't the origin's.
func TestFlush(t *testing.T) {
	for _, x := range sites() {
		b := x.bench(t)
		b.do(t, flushing())
		b.do(t, putting(0, sectorsOf("new", x.chunk)))
		b.disk.Write(0, sectorOf("super"))
		b.disk.Write(x.sectors, sectorOf("behind"))
		b.do(t, writing(x.origin-1, sectorOf("newer")))
		want := b.disk.Clone()
		want.Flush()
		b.do(t, flushing())
		checkDisks(t, b.disk, want)
		if s := b.disk.Bytes(); s[:sectorSize] != sectorOf("super") || s[x.sectors*sectorSize:][:sectorSize] != sectorOf("behind") {
			t.Errorf("of %v not all stands", x)
		}
		b.disk.Restart()
		checkOrigin(t, b.origin, b.plain)
	}
}

// With a fuse of 0 a flush is not done: what is pending may be lost.
func TestFlushThatFails(t *testing.T) {
	for _, x := range sites() {
		b := x.bench(t)
		lost := x.plain(b.disk)
		b.do(t, putting(0, sectorsOf("new", x.chunk)))
		b.disk.Fail(0)
		for range 2 {
			if err := b.origin.Flush(); err != api.ErrCrash || !b.disk.Dead() {
				t.Errorf("Flush of %v = %d, dead %t", x, err, b.disk.Dead())
			}
		}
		b.disk.Restart()
		checkOrigin(t, b.origin, lost)
		if err := b.origin.Flush(); err != api.OK {
			t.Errorf("Flush of %v = %d", x, err)
		}
	}
}

// allKeeps are all ways to keep some of so many writes.
func allKeeps(n int) [][]bool {
	l := [][]bool{{}}
	for range n {
		var longer [][]bool
		for _, keep := range l {
			longer = append(longer, append(slices.Clone(keep), false), append(slices.Clone(keep), true))
		}
		l = longer
	}
	return l
}

// The power fails at each thing of some calls, and each of the pending writes is kept or lost: what was flushed stands, and
// each sector that was not is as it stood, or as it was written.
func TestPowerFails(t *testing.T) {
	for _, x := range []site{{40, 5, 2}, {36, 6, 4}, {20, 2, 7}} {
		n := len(x.chunks())
		calls := []call{
			putting(0, sectorsOf("a", x.chunk)), flushing(), putting(n-1, sectorsOf("b", x.chunk)), writing(x.origin-2, sectorsOf("c", 2)), flushing(), putting(0, sectorsOf("d", x.chunk)),
		}
		for fuse := range 20 {
			b := x.bench(t)
			may := b.onlyReads()
			b.disk.Fail(fuse)
			for _, c := range calls {
				things, _ := c.onPlain(b.plain)
				err := c.on(b.origin)
				if c.op != "flush" {
					addAll(may, things)
				}
				if err != api.OK {
					break
				}
				if c.op == "flush" {
					may = b.onlyReads()
				}
			}
			for _, keep := range allKeeps(b.disk.Pending()) {
				d := b.disk.Clone()
				d.Restart(keep...)
				checkMay(t, x.mustOf(t, d), may)
			}
		}
	}
}

// onlyReads is, of each sector, what is read, as all that may stand there.
func (p *plain) onlyReads() [][]string {
	var may [][]string
	for _, s := range p.reads {
		may = append(may, []string{s})
	}
	return may
}

func addAll(may [][]string, things []thing) {
	for _, th := range things {
		may[th.sector-first] = append(may[th.sector-first], th.data)
	}
}

func checkMay(t testing.TB, o *Origin, may [][]string) {
	t.Helper()
	for i := range may {
		if s, err := o.Read(i, 1); err != api.OK || !slices.Contains(may[i], s) {
			t.Fatalf("sector %d is %q, %d, none of %q", i, s, err, may[i])
		}
	}
}

// Many calls in no order, on two origins on one disk, whose power fails now and then.
func TestManyCalls(t *testing.T) {
	state := uint32(1)
	next := func(n int) int {
		state = state*1664525 + 1013904223
		return int(state>>8) % n
	}
	for _, x := range sites() {
		b := x.bench(t)
		origins := []*Origin{b.origin, x.mustOf(t, b.disk)}
		for i := range 200 {
			b.origin = origins[i%2]
			size := next(min(x.origin+2, 10))
			switch next(10) {
			case 0:
				b.do(t, flushing())
			case 1, 2, 3:
				b.do(t, putting(next(len(x.chunks())+2)-1, pattern(x.full(), i)))
			case 4, 5, 6, 7:
				b.do(t, writing(next(x.origin+2)-1, pattern(size*sectorSize, i)))
			case 8:
				b.do(t, writing(next(x.origin+2)-1, pattern(size*sectorSize+1, i)))
			case 9:
				die(b.disk)
				keep := make([]bool, b.disk.Pending())
				for k := range keep {
					keep[k] = next(2) == 0
				}
				b.disk.Restart(keep...)
				b.plain = x.plain(b.disk)
			}
		}
	}
}

// The ways: an origin embeds its disk.

// The disk's calls are the origin's own: they are of the disk itself, not of another one that is as it is.
func TestCallsOfTheDisk(t *testing.T) {
	for _, x := range sites() {
		d := x.junk()
		o := x.mustOf(t, d)
		if o.Sectors() != x.sectors+3 || o.Pending() != 0 || o.Dead() || o.Bytes() != d.Bytes() {
			t.Errorf("of %v: %d sectors, %d pending, dead %t", x, o.Sectors(), o.Pending(), o.Dead())
		}
		d.Write(0, sectorsOf("all", 2))
		o.Write(0, sectorOf("mine"))
		if o.Pending() != 3 || d.Pending() != 3 {
			t.Errorf("of %v: %d pending, %d on the disk", x, o.Pending(), d.Pending())
		}
		checkDisks(t, o.Clone(), d)
		o.Fail(0)
		if o.Flush() != api.ErrCrash || !d.Dead() || !o.Dead() {
			t.Errorf("of %v: dead %t, the disk %t", x, o.Dead(), d.Dead())
		}
		o.Restart(true, false, true)
		if d.Dead() || o.Dead() || o.Pending() != 0 || o.Bytes() != d.Bytes() {
			t.Errorf("of %v: dead %t, %d pending", x, o.Dead(), o.Pending())
		}
		if s, err := o.Read(0, 1); s != sectorOf("mine") || err != api.OK {
			t.Errorf("of %v: Read(0, 1) = %q, %d", x, s, err)
		}
		if s := d.Bytes(); s[:sectorSize] != sectorOf("all", 0) || s[sectorSize:][:sectorSize] != sectorOf("junk", 1) {
			t.Errorf("of %v: %q stands", x, s[:2*sectorSize])
		}
	}
}

// P1, and rule 8: a nil origin.
func TestNilOrigin(t *testing.T) {
	var o *Origin
	for _, at := range edges() {
		for _, n := range edges() {
			if s, err := o.Read(at, n); s != "" || err != api.ErrArg {
				t.Errorf("Read(%d, %d) = %q, %d", at, n, s, err)
			}
		}
		if s, err := o.Chunk(at); s != "" || err != api.ErrArg {
			t.Errorf("Chunk(%d) = %q, %d", at, s, err)
		}
		for _, size := range []int{0, 1, 63, 64, 65, 128} {
			data := strings.Repeat("x", size)
			if err := o.Write(at, data); err != api.ErrArg {
				t.Errorf("Write(%d, %d bytes) = %d", at, size, err)
			}
			if err := o.Put(at, data); err != api.ErrArg {
				t.Errorf("Put(%d, %d bytes) = %d", at, size, err)
			}
		}
	}
	if err := o.Flush(); err != api.ErrArg {
		t.Errorf("Flush = %d", err)
	}
}

// P2: two origins that had the same calls tell the same, and neither hangs on the other.
func TestOriginsOnDisksOfTheirOwn(t *testing.T) {
	for _, x := range sites() {
		a, b := x.bench(t), x.bench(t)
		a.do(t, putting(0, sectorsOf("a", x.chunk)))
		checkOrigin(t, b.origin, b.plain)
		b.do(t, writing(x.origin-1, sectorOf("b")))
		checkOrigin(t, a.origin, a.plain)
		a.do(t, writing(x.origin-1, sectorOf("b")))
		b.do(t, putting(0, sectorsOf("a", x.chunk)))
		b.do(t, writing(x.origin-1, sectorOf("b")))
		a.do(t, writing(x.origin-1, sectorOf("b")))
		a.do(t, flushing())
		b.do(t, flushing())
		checkDisks(t, a.disk, b.disk)
	}
}
