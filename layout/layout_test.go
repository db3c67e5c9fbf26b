package layout

import (
	"math"
	"testing"

	"oakum/api"
	"oakum/geom"
)

const (
	diskEnd       = 1048576 // 2^20
	greatestChunk = 128
	slotCount     = 16
	originStart   = 17 // the superblock's sector, and 16 slots'
	pageEntries   = 13
)

func superOf(sectors, origin, chunk int) api.Super {
	return api.Super{Sectors: sectors, Origin: origin, Chunk: chunk}
}

func extentOf(start, length int) api.Extent { return api.Extent{Start: start, Len: length} }

func mustOf(t testing.TB, sectors, origin, chunk int) Layout {
	t.Helper()
	l, err := Of(superOf(sectors, origin, chunk))
	if err != api.OK {
		t.Fatalf("Of(%d, %d, %d) = %d", sectors, origin, chunk, err)
	}
	return l
}

// sizeOf is how many sectors a store with room for n chunks has, by the chapters' words: its head, its pages, its chunks.
func sizeOf(n, chunk int) int {
	pages := 0
	for entries := 0; entries < n; entries += pageEntries {
		pages++
	}
	return 1 + pages + n*chunk
}

// roomOf is how many chunks a store of so many sectors has room for, counted up one by one.
func roomOf(sectors, chunk int) int {
	n := 0
	for sizeOf(n+1, chunk) <= sectors {
		n++
	}
	return n
}

// storeErr is Room's error by the chapter's words: each of the store's sectors is looked for in Stores.
func storeErr(x api.Super, store api.Extent) api.Errno {
	in := func(sector int) bool { return sector >= originStart+x.Origin && sector < x.Sectors }
	switch {
	case store.Len < 0:
		return api.ErrRange
	// A store of no sector is in Stores from its first sector on up to just behind its last one.
	case store.Len == 0 && !in(store.Start) && store.Start != x.Sectors:
		return api.ErrRange
	}
	for i := range store.Len {
		if !in(store.Start + i) {
			return api.ErrRange
		}
	}
	if roomOf(store.Len, x.Chunk) == 0 {
		return api.ErrSpace
	}
	return api.OK
}

// someSupers are at the edges of what may be, and in its midst.
func someSupers() []api.Super {
	return []api.Super{
		superOf(100, 20, 2), superOf(80, 4, 2), superOf(18, 1, 1), superOf(19, 1, 1), superOf(20, 1, 1), superOf(57, 40, 4), superOf(58, 40, 4), superOf(64, 40, 4),
		superOf(200, 10, 4), superOf(300, 7, 128), superOf(diskEnd, 1, 1), superOf(diskEnd, 1, 128), superOf(diskEnd, diskEnd-17, 128), superOf(diskEnd, diskEnd-18, 1),
		superOf(diskEnd, diskEnd/2, 7), superOf(diskEnd-1, 1000, 127), superOf(1<<17, 1<<16, 3),
	}
}

// wrongSupers may not be: each number for itself, and several at once.
func wrongSupers() []api.Super {
	return []api.Super{
		{}, superOf(0, 4, 2), superOf(-1, 4, 2), superOf(20, 4, 2), superOf(17, 1, 1), superOf(56, 40, 4), superOf(diskEnd+1, 4, 2), superOf(math.MaxInt, 4, 2), superOf(math.MinInt, 4, 2),
		superOf(80, 0, 2), superOf(80, -1, 2), superOf(80, -17, 2), superOf(80, 64, 2), superOf(80, 80, 2), superOf(17, 0, 1), superOf(80, math.MaxInt, 2), superOf(80, math.MaxInt-16, 2), superOf(80, math.MinInt, 2),
		superOf(diskEnd, diskEnd-16, 2), superOf(diskEnd, diskEnd, 2), superOf(diskEnd+17, diskEnd, 2), superOf(diskEnd+18, diskEnd+1, 2),
		superOf(80, 4, 0), superOf(80, 4, -1), superOf(80, 4, -2), superOf(80, 4, 129), superOf(80, 4, math.MaxInt), superOf(80, 4, math.MinInt), superOf(80, 4, 1<<32+2),
		superOf(-1, -1, -1), superOf(0, 0, 2), superOf(0, 4, 0), superOf(80, 0, 0), superOf(20, 4, 0), superOf(diskEnd+1, diskEnd+1, 129),
		superOf(math.MaxInt, math.MaxInt, math.MaxInt), superOf(math.MinInt, math.MinInt, math.MinInt), superOf(1<<32+80, 1<<32+4, 1<<32+2),
	}
}

// edges are numbers that calls are asked with, whatever their argument means.
func edges() []int {
	return []int{
		math.MinInt, math.MinInt + 1, math.MinInt + 37, math.MinInt32, -diskEnd, -17, -2, -1, 0, 1, 2, 12, 13, 14, 15, 16, 17, 18, 21, 36, 37, 38, 80, 99, 100, 101,
		diskEnd - 1, diskEnd, diskEnd + 1, math.MaxInt32, 1 << 32, 1<<32 + 1, 1 << 62, math.MaxInt - 100, math.MaxInt - 1, math.MaxInt,
	}
}

func checkSlot(t *testing.T, l Layout, i, want int, wantErr api.Errno) {
	t.Helper()
	if got, err := l.Slot(i); got != want || err != wantErr {
		t.Errorf("Slot(%d) of %v = %d, %d, want %d, %d", i, l, got, err, want, wantErr)
	}
}

func checkRoom(t *testing.T, l Layout, store api.Extent, want int, wantErr api.Errno) {
	t.Helper()
	if got, err := l.Room(store); got != want || err != wantErr {
		t.Errorf("Room(%v) of %v = %d, %d, want %d, %d", store, l, got, err, want, wantErr)
	}
}

func checkPage(t *testing.T, l Layout, store api.Extent, i, want int, wantErr api.Errno) {
	t.Helper()
	if got, err := l.Page(store, i); got != want || err != wantErr {
		t.Errorf("Page(%v, %d) of %v = %d, %d, want %d, %d", store, i, l, got, err, want, wantErr)
	}
}

func checkChunk(t *testing.T, l Layout, store api.Extent, i int, want api.Extent, wantErr api.Errno) {
	t.Helper()
	if got, err := l.Chunk(store, i); got != want || err != wantErr {
		t.Errorf("Chunk(%v, %d) of %v = %v, %d, want %v, %d", store, i, l, got, err, want, wantErr)
	}
}

// checkNoStore holds that Room, and Page and Chunk of whatever number, tell the same error of a store.
func checkNoStore(t *testing.T, l Layout, store api.Extent, want api.Errno) {
	t.Helper()
	checkRoom(t, l, store, 0, want)
	for _, i := range edges() {
		checkPage(t, l, store, i, 0, want)
		checkChunk(t, l, store, i, api.Extent{}, want)
	}
}

// checkNone holds that a layout has none of all.
func checkNone(t *testing.T, l Layout) {
	t.Helper()
	if g := l.Geom(); g != (geom.Geom{}) {
		t.Errorf("Geom of %v = %v", l, g)
	}
	if x := l.Origin(); x != (api.Extent{}) {
		t.Errorf("Origin of %v = %v", l, x)
	}
	if x := l.Stores(); x != (api.Extent{}) {
		t.Errorf("Stores of %v = %v", l, x)
	}
	for _, i := range edges() {
		checkSlot(t, l, i, 0, api.ErrArg)
	}
	for _, start := range edges() {
		for _, length := range edges() {
			store := extentOf(start, length)
			checkRoom(t, l, store, 0, api.ErrArg)
			for _, i := range []int{math.MinInt, -1, 0, 1, 13, math.MaxInt} {
				checkPage(t, l, store, i, 0, api.ErrArg)
				checkChunk(t, l, store, i, api.Extent{}, api.ErrArg)
			}
		}
	}
}

// P10.1, Y1: Of.

func TestOf(t *testing.T) {
	for _, x := range someSupers() {
		if _, err := Of(x); err != api.OK {
			t.Errorf("Of(%v) = %d", x, err)
		}
	}
}

func TestOfSuperblocksThatMayNotBe(t *testing.T) {
	for _, x := range wrongSupers() {
		l, err := Of(x)
		if l != (Layout{}) || err != api.ErrArg {
			t.Errorf("Of(%v) = %v, %d, want ErrArg", x, l, err)
		}
		checkNone(t, l)
	}
}

// Each number just may be, and just may not.
func TestOfAtEachEdge(t *testing.T) {
	for _, c := range []struct {
		x    api.Super
		want api.Errno
	}{
		{superOf(57, 40, 4), api.OK},
		{superOf(56, 40, 4), api.ErrArg},
		{superOf(diskEnd, 40, 4), api.OK},
		{superOf(diskEnd+1, 40, 4), api.ErrArg},
		{superOf(80, 1, 2), api.OK},
		{superOf(80, 0, 2), api.ErrArg},
		{superOf(80, 63, 2), api.OK},
		{superOf(80, 64, 2), api.ErrArg},
		{superOf(diskEnd, diskEnd-17, 2), api.OK},
		{superOf(diskEnd, diskEnd-16, 2), api.ErrArg},
		{superOf(80, 4, 1), api.OK},
		{superOf(80, 4, 0), api.ErrArg},
		{superOf(80, 4, 128), api.OK},
		{superOf(80, 4, 129), api.ErrArg},
		{superOf(18, 1, 1), api.OK},
		{superOf(17, 1, 1), api.ErrArg},
	} {
		if _, err := Of(c.x); err != c.want {
			t.Errorf("Of(%v) = %d, want %d", c.x, err, c.want)
		}
	}
}

// P10.1: the layout that Of did not tell has none of all.

func TestLayoutThatOfDidNotTell(t *testing.T) {
	checkNone(t, Layout{})
}

// What is embedded can be written from outside: what is not what Of tells has none of all, too.
func TestLayoutWhoseSuperblockIsAnother(t *testing.T) {
	for _, x := range wrongSupers() {
		l := mustOf(t, 100, 20, 2)
		l.Super = x
		checkNone(t, l)
	}
	l := mustOf(t, 100, 20, 2)
	l.Sectors = 36
	checkNone(t, l)
	l = Layout{}
	l.Sectors = 100
	checkNone(t, l)
}

// P10.1, Y1: Geom, Origin, Stores.

func TestWhatStandsWhere(t *testing.T) {
	for _, c := range []struct {
		x              api.Super
		origin, stores api.Extent
	}{
		{superOf(100, 20, 2), extentOf(17, 20), extentOf(37, 63)},
		{superOf(80, 4, 2), extentOf(17, 4), extentOf(21, 59)},
		{superOf(57, 40, 4), extentOf(17, 40), extentOf(57, 0)},
		{superOf(58, 40, 4), extentOf(17, 40), extentOf(57, 1)},
		{superOf(18, 1, 1), extentOf(17, 1), extentOf(18, 0)},
		{superOf(19, 1, 128), extentOf(17, 1), extentOf(18, 1)},
		{superOf(diskEnd, 1, 1), extentOf(17, 1), extentOf(18, diskEnd-18)},
		{superOf(diskEnd, diskEnd-17, 1), extentOf(17, diskEnd-17), extentOf(diskEnd, 0)},
		{superOf(diskEnd, diskEnd-18, 128), extentOf(17, diskEnd-18), extentOf(diskEnd-1, 1)},
	} {
		l := mustOf(t, c.x.Sectors, c.x.Origin, c.x.Chunk)
		if got := l.Origin(); got != c.origin {
			t.Errorf("Origin of %v = %v, want %v", c.x, got, c.origin)
		}
		if got := l.Stores(); got != c.stores {
			t.Errorf("Stores of %v = %v, want %v", c.x, got, c.stores)
		}
		if got, want := l.Geom(), (geom.Geom{Origin: c.x.Origin, Chunk: c.x.Chunk}); got != want {
			t.Errorf("Geom of %v = %v, want %v", c.x, got, want)
		}
	}
}

// P10.1, Y1: Slot.

func TestSlot(t *testing.T) {
	for _, x := range someSupers() {
		l := mustOf(t, x.Sectors, x.Origin, x.Chunk)
		for i := range slotCount {
			checkSlot(t, l, i, 1+i, api.OK)
		}
		checkSlot(t, l, 0, 1, api.OK)
		checkSlot(t, l, 15, 16, api.OK)
		for _, i := range []int{math.MinInt, math.MinInt + 1, math.MinInt32, -17, -16, -2, -1, 16, 17, 18, 20, diskEnd, math.MaxInt32, 1 << 32, 1<<32 + 1, math.MaxInt - 1, math.MaxInt} {
			checkSlot(t, l, i, 0, api.ErrRange)
		}
	}
}

// P10.1, Y2: Room.

func TestRoom(t *testing.T) {
	l := mustOf(t, 100, 20, 2) // its Stores are 63 sectors from 37 on
	for _, c := range []struct {
		start, length, want int
		err                 api.Errno
	}{
		{40, 31, 14, api.OK},
		{40, 30, 13, api.OK}, // one sector fewer than 14 chunks need
		{40, 29, 13, api.OK}, // and the second page's, too
		{40, 28, 13, api.OK}, // just a full page's
		{40, 27, 12, api.OK},
		{40, 4, 1, api.OK},
		{40, 3, 0, api.ErrSpace},
		{40, 2, 0, api.ErrSpace},
		{40, 1, 0, api.ErrSpace},
		{40, 0, 0, api.ErrSpace},
		{40, -1, 0, api.ErrRange},
		{37, 63, 29, api.OK},
		{37, 64, 0, api.ErrRange},
		{38, 62, 29, api.OK},
		{38, 63, 0, api.ErrRange},
		{36, 4, 0, api.ErrRange},
		{36, 9, 0, api.ErrRange},
		{37, 4, 1, api.OK},
		{96, 4, 1, api.OK},
		{96, 5, 0, api.ErrRange},
		{97, 4, 0, api.ErrRange},
		{99, 1, 0, api.ErrSpace},
		{99, 2, 0, api.ErrRange},
		{100, 0, 0, api.ErrSpace},
		{100, 1, 0, api.ErrRange},
		{100, 4, 0, api.ErrRange},
		{101, 4, 0, api.ErrRange},
		{0, 4, 0, api.ErrRange},
		{17, 20, 0, api.ErrRange},
		{17, 83, 0, api.ErrRange},
		{0, 100, 0, api.ErrRange},
		{-1, 50, 0, api.ErrRange},
		{-40, 4, 0, api.ErrRange},
	} {
		store := extentOf(c.start, c.length)
		if c.err != api.OK {
			checkNoStore(t, l, store, c.err)
			continue
		}
		checkRoom(t, l, store, c.want, api.OK)
	}
}

// A store of no sector, or of fewer, is told by where it begins, too.
func TestRoomOfNoSector(t *testing.T) {
	l := mustOf(t, 100, 20, 2)
	for start := -5; start <= 120; start++ {
		want := api.ErrRange
		if start >= 37 && start <= 100 {
			want = api.ErrSpace
		}
		checkNoStore(t, l, extentOf(start, 0), want)
		for _, length := range []int{-1, -2, -3, -37, -63, -64, -start, -start - 1, 37 - start, math.MinInt32, math.MinInt + 1, math.MinInt} {
			if length < 0 {
				checkNoStore(t, l, extentOf(start, length), api.ErrRange)
			}
		}
	}
}

// Start and Len together are too many for an int, and wrap round; or each of them is.
func TestRoomOfGreatNumbers(t *testing.T) {
	for _, x := range someSupers() {
		l := mustOf(t, x.Sectors, x.Origin, x.Chunk)
		first := originStart + x.Origin
		for _, c := range [][2]int{
			{first, math.MaxInt}, {first, math.MaxInt - first}, {first, math.MaxInt - first + 1}, {first, 1 << 62}, {first, 1 << 32}, {first, 1<<32 + 4}, {first, diskEnd + 1},
			{math.MaxInt, 1}, {math.MaxInt, 2}, {math.MaxInt, 4}, {math.MaxInt, math.MaxInt}, {math.MaxInt - 3, 4}, {math.MaxInt, 0}, {1 << 62, 1 << 62}, {1<<62 + 60, 1 << 62}, {1<<32 + first, 4},
			{math.MinInt, 0}, {math.MinInt, 4}, {math.MinInt, math.MaxInt}, {math.MinInt + first, math.MaxInt}, {math.MinInt + first + 1, math.MaxInt}, {math.MinInt, math.MinInt}, {math.MinInt, -1},
			{-1, 1}, {-1, math.MaxInt}, {-1, first + 4}, {-first, first}, {first, math.MinInt}, {first, -math.MaxInt}, {math.MaxInt, math.MinInt}, {math.MaxInt, -math.MaxInt},
			{math.MaxInt, first + 1 - math.MaxInt}, {0, math.MinInt}, {0, math.MaxInt}, {diskEnd + 4, -4}, {x.Sectors + 4, -4}, {x.Sectors + 1, -1},
		} {
			checkNoStore(t, l, extentOf(c[0], c[1]), api.ErrRange)
		}
	}
}

// A disk of just the origin and 17 sectors more has none for stores; one of one more has one.
func TestRoomOfTheLeastDisks(t *testing.T) {
	for _, parts := range [][2]int{{1, 1}, {40, 4}, {4, 128}, {diskEnd - 18, 1}} {
		none := mustOf(t, parts[0]+17, parts[0], parts[1])
		end := parts[0] + 17
		checkNoStore(t, none, extentOf(end, 0), api.ErrSpace)
		for _, store := range []api.Extent{extentOf(end-1, 0), extentOf(end+1, 0), extentOf(end-1, 1), extentOf(end, 1), extentOf(end, -1), extentOf(end, 6), extentOf(0, end)} {
			checkNoStore(t, none, store, api.ErrRange)
		}
		one := mustOf(t, parts[0]+18, parts[0], parts[1])
		for _, store := range []api.Extent{extentOf(end, 0), extentOf(end, 1), extentOf(end+1, 0)} {
			checkNoStore(t, one, store, api.ErrSpace)
		}
		for _, store := range []api.Extent{extentOf(end-1, 1), extentOf(end-1, 2), extentOf(end, 2), extentOf(end, 3), extentOf(end+1, 1), extentOf(end+2, 0), extentOf(end, -1)} {
			checkNoStore(t, one, store, api.ErrRange)
		}
	}
}

// The least disk on which a store has room: for one chunk, of three sectors.
func TestRoomOfTheLeastStore(t *testing.T) {
	l := mustOf(t, 21, 1, 1)
	checkRoom(t, l, extentOf(18, 3), 1, api.OK)
	checkPage(t, l, extentOf(18, 3), 0, 19, api.OK)
	checkChunk(t, l, extentOf(18, 3), 0, extentOf(20, 1), api.OK)
	checkNoStore(t, l, extentOf(18, 2), api.ErrSpace)
	checkNoStore(t, l, extentOf(19, 3), api.ErrRange)
}

// The greatest store: a head, 74896 full pages with their chunks, and 13 sectors more, for a page of 12 chunks.
func TestGreatestStore(t *testing.T) {
	l := mustOf(t, diskEnd, 1, 1)
	store := extentOf(18, 1+74896*14+13)
	if l.Stores() != store {
		t.Fatalf("Stores = %v, want %v", l.Stores(), store)
	}
	checkRoom(t, l, store, 973660, api.OK)
	checkPage(t, l, store, 0, 19, api.OK)
	checkPage(t, l, store, 74896, 18+74897, api.OK)
	checkPage(t, l, store, 74897, 0, api.ErrRange)
	checkChunk(t, l, store, 0, extentOf(19+74897, 1), api.OK)
	checkChunk(t, l, store, 973659, extentOf(diskEnd-1, 1), api.OK)
	checkChunk(t, l, store, 973660, api.Extent{}, api.ErrRange)
	checkNoStore(t, l, extentOf(18, store.Len+1), api.ErrRange)
	checkNoStore(t, l, extentOf(17, store.Len), api.ErrRange)
}

// P10.1, Y2: Page, Chunk.

func TestPage(t *testing.T) {
	l := mustOf(t, 100, 20, 2)
	two, one := extentOf(40, 31), extentOf(40, 30)
	checkPage(t, l, two, 0, 41, api.OK)
	checkPage(t, l, two, 1, 42, api.OK)
	checkPage(t, l, one, 0, 41, api.OK)
	checkPage(t, l, one, 1, 0, api.ErrRange)
	checkPage(t, l, extentOf(96, 4), 0, 97, api.OK)
	checkPage(t, l, extentOf(37, 63), 2, 40, api.OK)
	checkPage(t, l, extentOf(37, 63), 3, 0, api.ErrRange)
	for _, i := range []int{math.MinInt, math.MinInt + 1, math.MinInt32, -2, -1, 2, 3, 13, 14, diskEnd, 1 << 32, math.MaxInt - 41, math.MaxInt - 1, math.MaxInt} {
		checkPage(t, l, two, i, 0, api.ErrRange)
	}
}

func TestChunk(t *testing.T) {
	l := mustOf(t, 100, 20, 2)
	two, one := extentOf(40, 31), extentOf(40, 30)
	for i := range 13 {
		checkChunk(t, l, two, i, extentOf(43+2*i, 2), api.OK)
		checkChunk(t, l, one, i, extentOf(42+2*i, 2), api.OK)
	}
	checkChunk(t, l, two, 13, extentOf(69, 2), api.OK) // behind 13 others
	checkChunk(t, l, two, 14, api.Extent{}, api.ErrRange)
	checkChunk(t, l, one, 13, api.Extent{}, api.ErrRange)
	checkChunk(t, l, extentOf(96, 4), 0, extentOf(98, 2), api.OK)
	checkChunk(t, l, extentOf(96, 4), 1, api.Extent{}, api.ErrRange)
	for _, i := range []int{math.MinInt, math.MinInt + 1, math.MinInt32, -2, -1, 15, 16, 63, diskEnd, 1 << 32, 1 << 62, 1<<62 + 1, math.MaxInt - 1, math.MaxInt} {
		checkChunk(t, l, two, i, api.Extent{}, api.ErrRange)
	}
}

// A chunk of the origin whose last one is not full has full size in a store; so has one of an origin that is less than
// a chunk, and a store may have room for more chunks than the origin has.
func TestChunkHasFullSize(t *testing.T) {
	l := mustOf(t, 200, 10, 4) // three chunks, the last one of two sectors; Stores from 27 on
	store := extentOf(30, 14)
	checkRoom(t, l, store, 3, api.OK)
	for i, start := range []int{32, 36, 40} {
		checkChunk(t, l, store, i, extentOf(start, 4), api.OK)
	}
	checkChunk(t, l, extentOf(30, 18), 3, extentOf(44, 4), api.OK)
	checkRoom(t, l, extentOf(27, 173), 42, api.OK)
	checkChunk(t, l, extentOf(27, 173), 41, extentOf(27+1+4+41*4, 4), api.OK)

	wide := mustOf(t, 300, 7, 128)
	checkChunk(t, wide, extentOf(24, 130), 0, extentOf(26, 128), api.OK)
	checkChunk(t, wide, extentOf(24, 258), 1, extentOf(154, 128), api.OK)
	checkNoStore(t, wide, extentOf(24, 129), api.ErrSpace)
}

// Of a store with more sectors than its chunks need, the last ones are nobody's.
func TestStoreWithSectorsLeft(t *testing.T) {
	l := mustOf(t, 200, 10, 4)
	for length := 54; length <= 58; length++ {
		store := extentOf(40, length)
		checkRoom(t, l, store, 13, api.OK)
		checkPage(t, l, store, 0, 41, api.OK)
		checkPage(t, l, store, 1, 0, api.ErrRange)
		checkChunk(t, l, store, 0, extentOf(42, 4), api.OK)
		checkChunk(t, l, store, 12, extentOf(90, 4), api.OK)
		checkChunk(t, l, store, 13, api.Extent{}, api.ErrRange)
	}
	store := extentOf(40, 59)
	checkRoom(t, l, store, 14, api.OK)
	checkPage(t, l, store, 1, 42, api.OK)
	checkChunk(t, l, store, 0, extentOf(43, 4), api.OK)
	checkChunk(t, l, store, 13, extentOf(95, 4), api.OK)
}

// Of several things that are wrong the first one is told: the layout, the store's sectors, its room, the number.
func TestSeveralThatAreWrong(t *testing.T) {
	l := mustOf(t, 100, 20, 2)
	for _, i := range []int{math.MinInt, -1, 0, 14, 100, math.MaxInt} {
		for _, store := range []api.Extent{extentOf(36, 3), extentOf(40, -1), extentOf(99, 2), extentOf(100, 1)} {
			checkPage(t, Layout{}, store, i, 0, api.ErrArg)
			checkChunk(t, Layout{}, store, i, api.Extent{}, api.ErrArg)
			checkPage(t, l, store, i, 0, api.ErrRange)
			checkChunk(t, l, store, i, api.Extent{}, api.ErrRange)
		}
		for _, store := range []api.Extent{extentOf(40, 3), extentOf(40, 0), extentOf(99, 1), extentOf(100, 0)} {
			checkPage(t, Layout{}, store, i, 0, api.ErrArg)
			checkChunk(t, Layout{}, store, i, api.Extent{}, api.ErrArg)
			checkPage(t, l, store, i, 0, api.ErrSpace)
			checkChunk(t, l, store, i, api.Extent{}, api.ErrSpace)
		}
	}
	checkSlot(t, Layout{}, -1, 0, api.ErrArg)
	checkSlot(t, Layout{}, 16, 0, api.ErrArg)
}

// Each store of small disks, and each page and chunk of it, is where the chapter's words place it.
func TestEachStoreOfSmallDisks(t *testing.T) {
	for _, origin := range []int{1, 5} {
		for _, chunk := range []int{1, 2, 3, 7} {
			for _, behind := range []int{0, 1, 2, 3, 4, 9, 33} {
				x := superOf(originStart+origin+behind, origin, chunk)
				l := mustOf(t, x.Sectors, x.Origin, x.Chunk)
				for start := originStart + origin - 3; start <= x.Sectors+3; start++ {
					for length := -2; length <= behind+4; length++ {
						checkStore(t, l, x, extentOf(start, length))
					}
				}
			}
		}
	}
}

// checkStore holds what is told of a store against the chapter's words, one sector behind the other.
func checkStore(t *testing.T, l Layout, x api.Super, store api.Extent) {
	t.Helper()
	if err := storeErr(x, store); err != api.OK {
		checkRoom(t, l, store, 0, err)
		for i := -1; i <= 1; i++ {
			checkPage(t, l, store, i, 0, err)
			checkChunk(t, l, store, i, api.Extent{}, err)
		}
		return
	}
	room := roomOf(store.Len, x.Chunk)
	checkRoom(t, l, store, room, api.OK)
	next, page := store.Start+1, 0
	for ; page*pageEntries < room; page++ {
		checkPage(t, l, store, page, next, api.OK)
		next++
	}
	for i := range room {
		checkChunk(t, l, store, i, extentOf(next, x.Chunk), api.OK)
		next += x.Chunk
	}
	for _, i := range []int{-1, math.MinInt} {
		checkPage(t, l, store, i, 0, api.ErrRange)
		checkChunk(t, l, store, i, api.Extent{}, api.ErrRange)
	}
	for _, more := range []int{0, 1, math.MaxInt - room} {
		checkPage(t, l, store, page+more, 0, api.ErrRange)
		checkChunk(t, l, store, room+more, api.Extent{}, api.ErrRange)
	}
}

// Stores around just so many chunks: full pages, one less, one more; with chunks of each size.
func TestStoresOfJustSoManyChunks(t *testing.T) {
	for chunk := 1; chunk <= greatestChunk; chunk++ {
		x := superOf(20000, 1000, chunk)
		l := mustOf(t, x.Sectors, x.Origin, x.Chunk)
		for _, n := range []int{1, 2, 12, 13, 14, 25, 26, 27, 39, 40} {
			size := sizeOf(n, chunk)
			for length := size - 2; length <= size+1; length++ {
				checkStore(t, l, x, extentOf(originStart+1000, length))
				checkStore(t, l, x, extentOf(x.Sectors-length, length))
				checkStore(t, l, x, extentOf(x.Sectors-length+1, length))
			}
		}
	}
}

// P10.2: no two of all stand in one sector; all stand in the disk.

// taken are a disk's sectors, each with what stands there.
type taken struct {
	t   *testing.T
	who []string
}

// take lets something stand at sectors where nothing does.
func (d *taken) take(who string, at api.Extent) {
	d.t.Helper()
	if at.Start < 0 || at.Len < 0 || at.Start+at.Len > len(d.who) {
		d.t.Fatalf("%s stands at %v, the disk has %d sectors", who, at, len(d.who))
	}
	for sector := at.Start; sector < at.Start+at.Len; sector++ {
		if d.who[sector] != "" {
			d.t.Fatalf("sector %d is of %s, and of %s", sector, d.who[sector], who)
		}
		d.who[sector] = who
	}
}

// count is how many sectors something has.
func (d *taken) count(who string) int {
	n := 0
	for _, w := range d.who {
		if w == who {
			n++
		}
	}
	return n
}

// takeStore lets a store's head, its pages and its chunks stand in it, and tells how many chunks.
func (d *taken) takeStore(l Layout, store api.Extent) int {
	d.t.Helper()
	room, err := l.Room(store)
	if err != api.OK {
		d.t.Fatalf("Room(%v) of %v = %d", store, l, err)
	}
	d.take("a head", extentOf(store.Start, 1))
	in := func(who string, at api.Extent) {
		if at.Start < store.Start || at.Start+at.Len > store.Start+store.Len {
			d.t.Fatalf("%s stands at %v, its store at %v", who, at, store)
		}
		d.take(who, at)
	}
	for i := range l.Geom().Pages(room) {
		sector, err := l.Page(store, i)
		if err != api.OK {
			d.t.Fatalf("Page(%v, %d) of %v = %d", store, i, l, err)
		}
		in("a page", extentOf(sector, 1))
	}
	for i := range room {
		at, err := l.Chunk(store, i)
		if err != api.OK || at.Len != l.Geom().Chunk {
			d.t.Fatalf("Chunk(%v, %d) of %v = %v, %d", store, i, l, at, err)
		}
		in("a chunk", at)
	}
	return room
}

func TestAllStandApart(t *testing.T) {
	for _, x := range someSupers() {
		l := mustOf(t, x.Sectors, x.Origin, x.Chunk)
		d := &taken{t: t, who: make([]string, x.Sectors)}
		d.take("the superblock", extentOf(0, 1))
		for i := range slotCount {
			sector, err := l.Slot(i)
			if err != api.OK {
				t.Fatalf("Slot(%d) of %v = %d", i, x, err)
			}
			d.take("a slot", extentOf(sector, 1))
		}
		d.take("the origin", l.Origin())
		stores := l.Stores()
		chunks, heads := 0, 0
		// One store behind the other, of more and more chunks, and at last one of all sectors that are left.
		next, end := stores.Start, stores.Start+stores.Len
		for n := 1; next+sizeOf(n, x.Chunk) <= end && n < 60; n += 3 {
			size := sizeOf(n, x.Chunk)
			chunks += d.takeStore(l, extentOf(next, size))
			heads++
			next += size
		}
		if next+sizeOf(1, x.Chunk) <= end {
			chunks += d.takeStore(l, extentOf(next, end-next))
			heads++
		}
		if got := d.count("a chunk"); got != chunks*x.Chunk || d.count("a head") != heads {
			t.Errorf("%v: %d chunks have %d sectors", x, chunks, got)
		}
		if d.count("a slot") != slotCount || d.count("the origin") != x.Origin || d.count("the superblock") != 1 {
			t.Errorf("%v: %d slots, an origin of %d", x, d.count("a slot"), d.count("the origin"))
		}
	}
}

// The superblock, the slots, the origin and the stores are the whole disk, in this order, without a gap.
func TestPartsAreTheDisk(t *testing.T) {
	for origin := 1; origin <= diskEnd-17; origin += 1 + origin/50 {
		for _, sectors := range []int{origin + 17, origin + 18, (origin + 17 + diskEnd) / 2, diskEnd} {
			if sectors < origin+17 {
				continue
			}
			chunk := 1 + origin%greatestChunk
			l := mustOf(t, sectors, origin, chunk)
			next := 1
			for i := range slotCount {
				checkSlot(t, l, i, next, api.OK)
				next++
			}
			o, s := l.Origin(), l.Stores()
			if o != extentOf(next, origin) || s != extentOf(next+origin, sectors-next-origin) || s.Len < 0 || s.Start+s.Len != sectors {
				t.Fatalf("of %d, %d, %d: the origin at %v, stores at %v", sectors, origin, chunk, o, s)
			}
			if g := l.Geom(); !g.Right() || g.Origin != origin || g.Chunk != chunk {
				t.Fatalf("of %d, %d, %d: %v", sectors, origin, chunk, g)
			}
		}
	}
}

// The rules that hold everywhere: what is handed in stays.

func TestArgumentsStay(t *testing.T) {
	x, store := superOf(100, 20, 2), extentOf(40, 31)
	l, _ := Of(x)
	kept := l
	l.Room(store)
	l.Page(store, 1)
	l.Chunk(store, 13)
	if x != superOf(100, 20, 2) || store != extentOf(40, 31) || l != kept {
		t.Errorf("now %v, %v, %v", x, store, l)
	}
	x.Origin, x.Sectors = 30, 200
	if l.Origin() != extentOf(17, 20) || l.Stores() != extentOf(37, 63) {
		t.Errorf("behind a superblock that was written into: %v, %v", l.Origin(), l.Stores())
	}
}

// P1, P2: every call ends, none panics, and each answers the same again, whatever was called in between.

// answers are all that is told of a superblock, and a store.
type answers struct {
	of, slot, room, page, chunk api.Errno
	geom                        geom.Geom
	origin, stores, place       api.Extent
	sector, chunks, at          int
}

func ask(x api.Super, store api.Extent, i int) (a answers) {
	var l Layout
	l, a.of = Of(x)
	a.geom, a.origin, a.stores = l.Geom(), l.Origin(), l.Stores()
	a.sector, a.slot = l.Slot(i)
	a.chunks, a.room = l.Room(store)
	a.at, a.page = l.Page(store, i)
	a.place, a.chunk = l.Chunk(store, i)
	return a
}

func TestTheSameAgain(t *testing.T) {
	for _, x := range append(someSupers(), wrongSupers()...) {
		for _, start := range append(edges(), originStart+x.Origin, x.Sectors-1, x.Sectors-4, x.Sectors) {
			for _, length := range append(edges(), x.Sectors-originStart-x.Origin, x.Sectors-start, x.Sectors-start+1) {
				for _, i := range []int{math.MinInt, -1, 0, 13, 15, math.MaxInt} {
					store := extentOf(start, length)
					once := ask(x, store, i)
					ask(superOf(80, 4, 2), extentOf(21, 59), 3)
					ask(api.Super{}, api.Extent{}, -1)
					if again := ask(x, store, i); again != once {
						t.Fatalf("of %v, %v, %d: %v, then %v", x, store, i, once, again)
					}
				}
			}
		}
	}
}
