package geom

import (
	"math"
	"slices"
	"testing"

	"oakum/api"
)

var (
	ten     = Geom{Origin: 10, Chunk: 4}                     // its last chunk has two sectors
	twelve  = Geom{Origin: 12, Chunk: 4}                     // its last chunk is whole
	single  = Geom{Origin: 1, Chunk: 1}                      // the least of all
	great   = Geom{Origin: api.MaxDisk, Chunk: api.MaxChunk} // the greatest of all
	fine    = Geom{Origin: api.MaxDisk, Chunk: 1}            // the most chunks
	wide    = Geom{Origin: 1, Chunk: api.MaxChunk}           // a chunk that is never full
	uneven  = Geom{Origin: api.MaxDisk, Chunk: 127}          // the last chunk of a great one has fewer
	allGood = []Geom{ten, twelve, single, great, fine, wide, uneven}
)

// wrongOnes may not be: each edge for itself, and both numbers wrong at once.
func wrongOnes() []Geom {
	return []Geom{
		{},
		{Origin: 0, Chunk: 4},
		{Origin: -1, Chunk: 4},
		{Origin: math.MinInt, Chunk: 4},
		{Origin: api.MaxDisk + 1, Chunk: 4},
		{Origin: math.MaxInt, Chunk: 4},
		{Origin: 10, Chunk: 0},
		{Origin: 10, Chunk: -1},
		{Origin: 10, Chunk: math.MinInt},
		{Origin: 10, Chunk: api.MaxChunk + 1},
		{Origin: 10, Chunk: math.MaxInt},
		{Origin: -4, Chunk: -4},
		{Origin: math.MaxInt, Chunk: math.MaxInt},
		{Origin: math.MinInt, Chunk: math.MinInt},
	}
}

// edges are numbers that calls are asked with, whatever their argument means.
func edges() []int {
	return []int{
		math.MinInt, math.MinInt + 1, math.MinInt32, -2, -1, 0, 1, 2, 3, 12, 13, 14, 26, 27,
		api.MaxDisk - 1, api.MaxDisk, api.MaxDisk + 1, math.MaxInt32, math.MaxInt - 1, math.MaxInt,
	}
}

// P5.1, E1: Right.

func TestRight(t *testing.T) {
	for _, g := range allGood {
		if !g.Right() {
			t.Errorf("%v may not be", g)
		}
	}
	for _, g := range wrongOnes() {
		if g.Right() {
			t.Errorf("%v may be", g)
		}
	}
}

func TestRightAtEachPairOfEdges(t *testing.T) {
	for _, origin := range []int{-1, 0, 1, 2, api.MaxDisk - 1, api.MaxDisk, api.MaxDisk + 1} {
		for _, chunk := range []int{-1, 0, 1, 2, 127, 128, 129} {
			want := origin >= 1 && origin <= 1048576 && chunk >= 1 && chunk <= 128
			if got := (Geom{Origin: origin, Chunk: chunk}).Right(); got != want {
				t.Errorf("origin %d, chunk %d: %v, want %v", origin, chunk, got, want)
			}
		}
	}
}

// P5.1, E1: of a geometry that may not be, all calls tell ErrArg, or 0, whatever else is wrong.

func TestWrongGeometries(t *testing.T) {
	for _, g := range wrongOnes() {
		if n := g.Chunks(); n != 0 {
			t.Errorf("Chunks of %v: %d", g, n)
		}
		for _, n := range edges() {
			if x, err := g.Span(n); x != (api.Extent{}) || err != api.ErrArg {
				t.Errorf("Span(%d) of %v: %v %d", n, g, x, err)
			}
			if got := g.Pages(n); got != 0 {
				t.Errorf("Pages(%d) of %v: %d", n, g, got)
			}
			if got, err := g.Size(n); got != 0 || err != api.ErrArg {
				t.Errorf("Size(%d) of %v: %d %d", n, g, got, err)
			}
			if got, err := g.Room(n); got != 0 || err != api.ErrArg {
				t.Errorf("Room(%d) of %v: %d %d", n, g, got, err)
			}
			for _, at := range edges() {
				if got, err := g.Split(at, n); len(got) != 0 || err != api.ErrArg {
					t.Errorf("Split(%d, %d) of %v: %v %d", at, n, g, got, err)
				}
			}
		}
	}
}

// P5.1, E1: Chunks and Span.

func TestChunks(t *testing.T) {
	for g, want := range map[Geom]int{
		ten: 3, twelve: 3, single: 1, great: 8192, fine: 1048576, wide: 1, uneven: 8257,
		{Origin: 4, Chunk: 4}: 1, {Origin: 5, Chunk: 4}: 2, {Origin: 3, Chunk: 4}: 1, {Origin: 9, Chunk: 4}: 3, {Origin: 8, Chunk: 4}: 2,
	} {
		if got := g.Chunks(); got != want {
			t.Errorf("Chunks of %v: %d, want %d", g, got, want)
		}
	}
}

func TestSpan(t *testing.T) {
	for _, c := range []struct {
		g    Geom
		c    int
		want api.Extent
	}{
		{ten, 0, api.Extent{Start: 0, Len: 4}},
		{ten, 1, api.Extent{Start: 4, Len: 4}},
		{ten, 2, api.Extent{Start: 8, Len: 2}},
		{twelve, 2, api.Extent{Start: 8, Len: 4}},
		{single, 0, api.Extent{Start: 0, Len: 1}},
		{wide, 0, api.Extent{Start: 0, Len: 1}},
		{great, 8191, api.Extent{Start: 1048448, Len: 128}},
		{fine, 1048575, api.Extent{Start: 1048575, Len: 1}},
		{uneven, 8256, api.Extent{Start: 1048512, Len: 64}},
	} {
		if got, err := c.g.Span(c.c); got != c.want || err != api.OK {
			t.Errorf("Span(%d) of %v: %v %d, want %v", c.c, c.g, got, err, c.want)
		}
	}
}

func TestSpanOfChunksThatAreNotThere(t *testing.T) {
	for _, g := range allGood {
		for _, c := range []int{math.MinInt, -2, -1, g.Chunks(), g.Chunks() + 1, g.Origin + 1, math.MaxInt / 4, math.MaxInt} {
			if got, err := g.Span(c); got != (api.Extent{}) || err != api.ErrRange {
				t.Errorf("Span(%d) of %v: %v %d, want ErrRange", c, g, got, err)
			}
		}
	}
}

// The spans of all chunks, one behind the other, are the origin.
func TestSpansAreTheOrigin(t *testing.T) {
	for _, g := range allGood {
		next := 0
		for c := range g.Chunks() {
			x, err := g.Span(c)
			if err != api.OK || x.Start != next || x.Len < 1 || x.Len > g.Chunk || (x.Len < g.Chunk && c != g.Chunks()-1) {
				t.Fatalf("Span(%d) of %v: %v %d, where %d is next", c, g, x, err, next)
			}
			next += x.Len
		}
		if next != g.Origin {
			t.Errorf("the chunks of %v have %d sectors", g, next)
		}
	}
}

// P5.1, E1: Split.

func TestSplit(t *testing.T) {
	for _, c := range []struct {
		g     Geom
		at, n int
		want  []Piece
	}{
		{ten, 3, 3, []Piece{{0, 3, 1}, {1, 0, 2}}},
		{ten, 2, 7, []Piece{{0, 2, 2}, {1, 0, 4}, {2, 0, 1}}},
		{ten, 0, 10, []Piece{{0, 0, 4}, {1, 0, 4}, {2, 0, 2}}},
		{twelve, 0, 12, []Piece{{0, 0, 4}, {1, 0, 4}, {2, 0, 4}}},
		{ten, 0, 4, []Piece{{0, 0, 4}}},
		{ten, 4, 4, []Piece{{1, 0, 4}}},
		{ten, 8, 2, []Piece{{2, 0, 2}}},
		{ten, 3, 5, []Piece{{0, 3, 1}, {1, 0, 4}}},
		{ten, 4, 5, []Piece{{1, 0, 4}, {2, 0, 1}}},
		{ten, 0, 1, []Piece{{0, 0, 1}}},
		{ten, 3, 1, []Piece{{0, 3, 1}}},
		{ten, 4, 1, []Piece{{1, 0, 1}}},
		{ten, 9, 1, []Piece{{2, 1, 1}}},
		{ten, 5, 2, []Piece{{1, 1, 2}}},
		{single, 0, 1, []Piece{{0, 0, 1}}},
		{wide, 0, 1, []Piece{{0, 0, 1}}},
		{Geom{Origin: 3, Chunk: 1}, 0, 3, []Piece{{0, 0, 1}, {1, 0, 1}, {2, 0, 1}}},
		{great, 1048575, 1, []Piece{{8191, 127, 1}}},
		{great, 1048447, 129, []Piece{{8190, 127, 1}, {8191, 0, 128}}},
		{uneven, 1048511, 65, []Piece{{8255, 126, 1}, {8256, 0, 64}}},
		{fine, 1048574, 2, []Piece{{1048574, 0, 1}, {1048575, 0, 1}}},
	} {
		if got, err := c.g.Split(c.at, c.n); !slices.Equal(got, c.want) || err != api.OK {
			t.Errorf("Split(%d, %d) of %v: %v %d, want %v", c.at, c.n, c.g, got, err, c.want)
		}
	}
}

// No sector has no piece, also just behind the last one.
func TestSplitOfNoSector(t *testing.T) {
	for _, g := range allGood {
		for _, at := range []int{0, g.Origin / 2, g.Origin - 1, g.Origin} {
			if got, err := g.Split(at, 0); len(got) != 0 || err != api.OK {
				t.Errorf("Split(%d, 0) of %v: %v %d", at, g, got, err)
			}
		}
	}
}

func TestSplitOfSectorsThatAreNotThere(t *testing.T) {
	for _, g := range allGood {
		end := g.Origin
		for _, c := range [][2]int{
			{0, end + 1}, {1, end}, {end - 1, 2}, {end, 1}, {end + 1, 0}, {end + 1, -1}, {end + 2, -2},
			{-1, 0}, {-1, 1}, {-1, 2}, {-1, -1}, {-1, end}, {-1, end + 1}, {-1, end + 2}, {0, -1}, {1, -1}, {end, -1}, {end, -end},
			{math.MaxInt, 1}, {1, math.MaxInt}, {math.MaxInt, math.MaxInt}, {math.MaxInt, 2}, {2, math.MaxInt},
			{math.MaxInt/2 + 1, math.MaxInt/2 + 1}, {math.MaxInt, 0}, {math.MaxInt, -math.MaxInt}, {-math.MaxInt, math.MaxInt},
			{math.MinInt, 0}, {0, math.MinInt}, {math.MinInt, math.MinInt}, {math.MinInt, math.MaxInt}, {math.MaxInt, math.MinInt}, {-1, math.MinInt}, {math.MinInt, -1},
		} {
			if got, err := g.Split(c[0], c[1]); len(got) != 0 || err != api.ErrRange {
				t.Errorf("Split(%d, %d) of %v: %v %d, want ErrRange", c[0], c[1], g, got, err)
			}
		}
	}
}

// P5.2 (in pieces): put together, they are the sectors, each of one chunk, rising.

// checkPieces holds pieces sector by sector against where each one of them stands.
func checkPieces(t *testing.T, g Geom, at, n int, pieces []Piece) {
	t.Helper()
	next, chunk := at, -1
	for _, p := range pieces {
		if p.N < 1 || p.From < 0 || p.From+p.N > g.Chunk || p.Chunk <= chunk {
			t.Fatalf("Split(%d, %d) of %v: %v in %v", at, n, g, p, pieces)
		}
		span, err := g.Span(p.Chunk)
		if err != api.OK || p.From+p.N > span.Len || span.Start+p.From != next {
			t.Fatalf("Split(%d, %d) of %v: %v in %v, where %d is next", at, n, g, p, pieces, next)
		}
		next, chunk = next+p.N, p.Chunk
	}
	if next != at+n {
		t.Fatalf("Split(%d, %d) of %v: %v has %d sectors", at, n, g, pieces, next-at)
	}
}

func TestPiecesOfSmallOrigins(t *testing.T) {
	for origin := 1; origin <= 20; origin++ {
		for chunk := 1; chunk <= 22; chunk++ {
			g := Geom{Origin: origin, Chunk: chunk}
			for at := -2; at <= origin+2; at++ {
				for n := -2; n <= origin+2; n++ {
					pieces, err := g.Split(at, n)
					if at < 0 || n < 0 || at+n > origin {
						if err != api.ErrRange || len(pieces) != 0 {
							t.Fatalf("Split(%d, %d) of %v: %v %d", at, n, g, pieces, err)
						}
						continue
					}
					if err != api.OK {
						t.Fatalf("Split(%d, %d) of %v: %d", at, n, g, err)
					}
					checkPieces(t, g, at, n, pieces)
				}
			}
		}
	}
}

func TestPiecesOfGreatOrigins(t *testing.T) {
	for _, g := range []Geom{great, fine, uneven, {Origin: api.MaxDisk - 1, Chunk: 64}, {Origin: api.MaxDisk, Chunk: 3}} {
		for _, c := range [][2]int{{0, g.Origin}, {1, g.Origin - 1}, {g.Chunk, g.Origin - g.Chunk}, {g.Origin / 2, g.Origin / 3}, {0, g.Origin - 1}} {
			pieces, err := g.Split(c[0], c[1])
			if err != api.OK {
				t.Fatalf("Split(%d, %d) of %v: %d", c[0], c[1], g, err)
			}
			checkPieces(t, g, c[0], c[1], pieces)
		}
	}
}

// P5.1, E2: Pages.

func TestPages(t *testing.T) {
	for n, want := range map[int]int{
		math.MinInt: 0, -14: 0, -13: 0, -1: 0, 0: 0, 1: 1, 2: 1, 12: 1, 13: 1, 14: 2, 26: 2, 27: 3, 39: 3, 40: 4,
		api.MaxDisk: 80660, math.MaxInt - 8: (math.MaxInt-8)/13 + 1, math.MaxInt: math.MaxInt/13 + 1,
	} {
		for _, g := range allGood {
			if got := g.Pages(n); got != want {
				t.Errorf("Pages(%d) of %v: %d, want %d", n, g, got, want)
			}
		}
	}
}

// The greatest number's pages are just enough: with one less there is no place for all.
func TestPagesAreJustEnough(t *testing.T) {
	for n := 1; n < 2000; n++ {
		if pages := ten.Pages(n); pages*13 < n || (pages-1)*13 >= n {
			t.Errorf("Pages(%d): %d", n, pages)
		}
	}
}

// P5.1, E2: Size.

func TestSize(t *testing.T) {
	for _, c := range []struct{ chunk, n, want int }{
		{4, 1, 6}, {4, 2, 10}, {4, 12, 50}, {4, 13, 54}, {4, 14, 59}, {4, 26, 107}, {4, 27, 112},
		{1, 1, 3}, {1, 13, 15}, {1, 14, 17}, {1, api.MaxDisk, 1 + 80660 + 1048576},
		{128, 1, 130}, {128, 13, 1666}, {128, 14, 1795}, {128, api.MaxDisk - 1, 1 + 80660 + 134217600}, {128, api.MaxDisk, 1 + 80660 + 134217728},
	} {
		for _, origin := range []int{1, 10, api.MaxDisk} {
			g := Geom{Origin: origin, Chunk: c.chunk}
			if got, err := g.Size(c.n); got != c.want || err != api.OK {
				t.Errorf("Size(%d) of %v: %d %d, want %d", c.n, g, got, err, c.want)
			}
		}
	}
}

func TestSizeOfWrongNumbers(t *testing.T) {
	for _, g := range allGood {
		for _, n := range []int{math.MinInt, -13, -1, 0, api.MaxDisk + 1, math.MaxInt/128 + 1, math.MaxInt} {
			if got, err := g.Size(n); got != 0 || err != api.ErrRange {
				t.Errorf("Size(%d) of %v: %d %d, want ErrRange", n, g, got, err)
			}
		}
	}
}

// P5.1, E2: Room.

func TestRoom(t *testing.T) {
	for _, c := range []struct{ chunk, sectors, want int }{
		{4, 6, 1}, {4, 7, 1}, {4, 9, 1}, {4, 10, 2}, {4, 53, 12}, {4, 54, 13}, {4, 55, 13}, {4, 58, 13}, {4, 59, 14}, {4, 60, 14}, {4, 62, 14}, {4, 63, 15},
		{1, 3, 1}, {1, 4, 2}, {1, 15, 13}, {1, 16, 13}, {1, 17, 14}, {1, api.MaxDisk - 1, 973675}, {1, api.MaxDisk, 973676},
		{128, 130, 1}, {128, 131, 1}, {128, 257, 1}, {128, 258, 2}, {128, api.MaxDisk, 8187},
	} {
		for _, origin := range []int{1, 10, api.MaxDisk} {
			g := Geom{Origin: origin, Chunk: c.chunk}
			if got, err := g.Room(c.sectors); got != c.want || err != api.OK {
				t.Errorf("Room(%d) of %v: %d %d, want %d", c.sectors, g, got, err, c.want)
			}
		}
	}
}

func TestRoomForNone(t *testing.T) {
	for _, g := range allGood {
		for _, sectors := range []int{0, 1, 2, g.Chunk, g.Chunk + 1} {
			if got, err := g.Room(sectors); got != 0 || err != api.ErrSpace {
				t.Errorf("Room(%d) of %v: %d %d, want ErrSpace", sectors, g, got, err)
			}
		}
		if got, err := g.Room(g.Chunk + 2); got != 1 || err != api.OK {
			t.Errorf("Room(%d) of %v: %d %d, want 1", g.Chunk+2, g, got, err)
		}
	}
}

func TestRoomOfWrongNumbers(t *testing.T) {
	for _, g := range allGood {
		for _, sectors := range []int{math.MinInt, -129, -1, api.MaxDisk + 1, api.MaxDisk + 2, math.MaxInt} {
			if got, err := g.Room(sectors); got != 0 || err != api.ErrRange {
				t.Errorf("Room(%d) of %v: %d %d, want ErrRange", sectors, g, got, err)
			}
		}
	}
}

// P5.3 (just so much): a store of Size has Room for as many, with a sector less for fewer, and Room is always the
// greatest that Size allows: the chunks are counted up beside the sectors, one by one.
func TestRoomOfEachSize(t *testing.T) {
	for _, chunk := range []int{1, 2, 3, 4, 13, 14, 64, 127, 128} {
		g := Geom{Origin: 100, Chunk: chunk}
		n, next := 0, 1+1+chunk
		for sectors := range api.MaxDisk + 1 {
			if sectors == next {
				n++
				next += chunk
				if n%13 == 0 {
					next++
				}
				if size, err := g.Size(n); size != sectors || err != api.OK {
					t.Fatalf("Size(%d) of %v: %d %d, want %d", n, g, size, err, sectors)
				}
			}
			got, err := g.Room(sectors)
			if got != n || (err == api.OK) != (n > 0) || (err == api.ErrSpace) != (n == 0) {
				t.Fatalf("Room(%d) of %v: %d %d, want %d", sectors, g, got, err, n)
			}
		}
	}
}

func TestRoomAtEachChunk(t *testing.T) {
	for chunk := 1; chunk <= api.MaxChunk; chunk++ {
		g := Geom{Origin: 1, Chunk: chunk}
		for n := 1; n <= 60; n++ {
			size, err := g.Size(n)
			if err != api.OK {
				t.Fatalf("Size(%d) of %v: %d", n, g, err)
			}
			if got, err := g.Room(size); got != n || err != api.OK {
				t.Errorf("Room(%d) of %v: %d %d, want %d", size, g, got, err, n)
			}
			if got, _ := g.Room(size - 1); got != n-1 {
				t.Errorf("Room(%d) of %v: %d, want %d", size-1, g, got, n-1)
			}
		}
	}
}

// P1, P2: every call ends, and answers the same again, whatever was called and changed in between.

func TestTheSameAgain(t *testing.T) {
	for _, g := range append(wrongOnes(), ten, twelve, single, wide) {
		for _, a := range edges() {
			for _, b := range edges() {
				first, err := g.Split(a, b)
				kept := slices.Clone(first)
				for i := range first {
					first[i] = Piece{-1, -1, -1}
				}
				again, errAgain := g.Split(a, b)
				if !slices.Equal(kept, again) || err != errAgain {
					t.Errorf("Split(%d, %d) of %v: %v %d, then %v %d", a, b, g, kept, err, again, errAgain)
				}
			}
			x, errX := g.Span(a)
			size, errSize := g.Size(a)
			room, errRoom := g.Room(a)
			if y, err := g.Span(a); y != x || err != errX {
				t.Errorf("Span(%d) of %v: %v, then %v", a, g, x, y)
			}
			if n, err := g.Size(a); n != size || err != errSize {
				t.Errorf("Size(%d) of %v: %d, then %d", a, g, size, n)
			}
			if n, err := g.Room(a); n != room || err != errRoom {
				t.Errorf("Room(%d) of %v: %d, then %d", a, g, room, n)
			}
		}
	}
}
