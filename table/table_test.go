package table

import (
	"math"
	"slices"
	"testing"

	"oakum/api"
)

const (
	pageEntries    = 13
	greatestPlaces = 1048576    // 2^20
	greatestChunk  = 2147483646 // 2^31 - 2
)

// plain is a table by the chapter's words: of each place its chunk, or -1.
type plain []int

func plainOf(places int) plain {
	p := make(plain, places)
	for i := range p {
		p[i] = -1
	}
	return p
}

func (p plain) count() int {
	n := 0
	for _, chunk := range p {
		if chunk != -1 {
			n++
		}
	}
	return n
}

func (p plain) find(chunk int) (int, bool) {
	i := slices.Index(p, chunk)
	if chunk == -1 || i < 0 {
		return 0, false
	}
	return i, true
}

func (p plain) put(chunk int) (int, api.Errno) {
	if chunk < 0 || chunk > greatestChunk {
		return 0, api.ErrArg
	}
	if i, ok := p.find(chunk); ok {
		return i, api.OK
	}
	for i := range p {
		if p[i] == -1 {
			p[i] = chunk
			return i, api.OK
		}
	}
	return 0, api.ErrSpace
}

func (p plain) drop(chunk int) (int, api.Errno) {
	i, ok := p.find(chunk)
	if !ok {
		return 0, api.ErrNone
	}
	p[i] = -1
	return i, api.OK
}

func (p plain) all() []api.Entry {
	var all []api.Entry
	for i, chunk := range p {
		if chunk != -1 {
			all = append(all, api.Entry{Origin: chunk, Index: i})
		}
	}
	slices.SortFunc(all, func(a, b api.Entry) int { return a.Origin - b.Origin })
	return all
}

// numbers is what stands in all its pages, one behind the other.
func (p plain) numbers() []int {
	l := slices.Clone([]int(p))
	for len(l)%pageEntries != 0 {
		l = append(l, -1)
	}
	return l
}

// loadErr is Load's error by the chapter's words.
func loadErr(places int, numbers []int) api.Errno {
	if places < 0 || places > greatestPlaces || len(numbers) != numbersOf(places) {
		return api.ErrArg
	}
	for i, n := range numbers {
		if n < -1 || n > greatestChunk || n != -1 && (i >= places || slices.Contains(numbers[:i], n)) {
			return api.ErrCorrupt
		}
	}
	return api.OK
}

// numbersOf is how many numbers the pages of so many places have, counted up page by page.
func numbersOf(places int) int {
	n := 0
	for n < places {
		n += pageEntries
	}
	return n
}

// edges are numbers that calls are asked with, whatever their argument means.
func edges() []int {
	return []int{
		math.MinInt, math.MinInt + 1, math.MinInt32, -1 << 32, -1<<32 + 5, -14, -13, -2, -1, 0, 1, 2, 5, 12, 13, 14, 25, 26, 27, greatestPlaces - 1, greatestPlaces, greatestPlaces + 1,
		greatestChunk - 1, greatestChunk, greatestChunk + 1, greatestChunk + 2, 1<<32 - 1, 1 << 32, 1<<32 + 5, 1 << 62, math.MaxInt - 12, math.MaxInt - 1, math.MaxInt,
	}
}

// tableOf has these chunks, put one by one.
func tableOf(t testing.TB, places int, chunks ...int) (*Table, plain) {
	t.Helper()
	x, p := New(places), plainOf(places)
	for _, chunk := range chunks {
		checkPut(t, x, p, chunk)
	}
	return x, p
}

func checkPut(t testing.TB, x *Table, p plain, chunk int) {
	t.Helper()
	want, wantErr := p.put(chunk)
	if got, err := x.Put(chunk); got != want || err != wantErr {
		t.Fatalf("Put(%d) = %d, %d, want %d, %d: %v", chunk, got, err, want, wantErr, p)
	}
}

func checkDrop(t testing.TB, x *Table, p plain, chunk int) {
	t.Helper()
	want, wantErr := p.drop(chunk)
	if got, err := x.Drop(chunk); got != want || err != wantErr {
		t.Fatalf("Drop(%d) = %d, %d, want %d, %d: %v", chunk, got, err, want, wantErr, p)
	}
}

func checkFind(t testing.TB, x *Table, p plain, chunk int) {
	t.Helper()
	want, wantOK := p.find(chunk)
	if got, ok := x.Find(chunk); got != want || ok != wantOK {
		t.Errorf("Find(%d) = %d, %t, want %d, %t: %v", chunk, got, ok, want, wantOK, p)
	}
}

// checkTable holds all that a table tells of itself against a plain one.
func checkTable(t testing.TB, x *Table, p plain) {
	t.Helper()
	if x.Len() != p.count() || x.Left() != len(p)-p.count() {
		t.Errorf("Len, Left = %d, %d, want %d of %d: %v", x.Len(), x.Left(), p.count(), len(p), p)
	}
	if got := x.All(); !slices.Equal(got, p.all()) {
		t.Errorf("All() = %v, want %v", got, p.all())
	}
	for _, chunk := range p {
		checkFind(t, x, p, chunk)
	}
	numbers := p.numbers()
	for i := range len(numbers) / pageEntries {
		checkPage(t, x, i, numbers[i*pageEntries:][:pageEntries])
	}
	checkNoPage(t, x, len(numbers)/pageEntries)
	checkNoPage(t, x, -1)
}

func checkPage(t testing.TB, x *Table, i int, want []int) {
	t.Helper()
	if got, err := x.Page(i); !slices.Equal(got, want) || err != api.OK {
		t.Errorf("Page(%d) = %v, %d, want %v", i, got, err, want)
	}
}

func checkNoPage(t testing.TB, x *Table, i int) {
	t.Helper()
	if got, err := x.Page(i); len(got) != 0 || err != api.ErrRange {
		t.Errorf("Page(%d) = %v, %d, want ErrRange", i, got, err)
	}
}

// checkLoad holds Load against the chapter's words, and what it tells against the numbers.
func checkLoad(t testing.TB, places int, numbers []int) {
	t.Helper()
	want := loadErr(places, numbers)
	x, err := Load(places, numbers...)
	if err != want || (x == nil) != (want != api.OK) {
		t.Errorf("Load(%d, %v) = %v, %d, want %d", places, numbers, x, err, want)
		return
	}
	if want == api.OK {
		checkTable(t, x, slices.Clone(numbers[:places]))
	}
}

// checkLoadErr holds Load of numbers that are too many to be gone through again and again.
func checkLoadErr(t testing.TB, places int, numbers []int, want api.Errno) {
	t.Helper()
	if x, err := Load(places, numbers...); err != want || (x == nil) != (want != api.OK) {
		t.Errorf("Load(%d) of %d numbers: %d, want %d", places, len(numbers), err, want)
	}
}

// noChunks are n numbers -1.
func noChunks(n int) []int { return plainOf(n) }

// with is a copy of numbers, of which that at a place is another one.
func with(numbers []int, at, n int) []int {
	l := slices.Clone(numbers)
	l[at] = n
	return l
}

// collect is what stands in all of a table's pages.
func collect(t testing.TB, x *Table) []int {
	t.Helper()
	var l []int
	for i := 0; ; i++ {
		numbers, err := x.Page(i)
		if err != api.OK {
			return l
		}
		l = append(l, numbers...)
	}
}

// P12.1, T1: New.

func TestNew(t *testing.T) {
	for _, places := range []int{0, 1, 2, 12, 13, 14, 25, 26, 27, 39, 40, 1000} {
		x, p := tableOf(t, places)
		checkTable(t, x, p)
		for _, chunk := range edges() {
			checkFind(t, x, p, chunk)
			checkDrop(t, x, p, chunk)
		}
		for i := range places + 1 { // one more than there is room for
			checkPut(t, x, p, 7*i)
		}
		checkTable(t, x, p)
	}
}

func TestNewOfTheMost(t *testing.T) {
	for _, places := range []int{greatestPlaces - 1, greatestPlaces} {
		x := New(places)
		if x.Len() != 0 || x.Left() != places || len(x.All()) != 0 {
			t.Fatalf("New(%d): %d, %d", places, x.Len(), x.Left())
		}
		last := numbersOf(places)/pageEntries - 1
		checkPage(t, x, 0, noChunks(pageEntries))
		checkPage(t, x, last, noChunks(pageEntries))
		checkNoPage(t, x, last+1)
		if n, err := x.Put(5); n != 0 || err != api.OK {
			t.Errorf("Put = %d, %d", n, err)
		}
	}
}

// Of fewer than 0, or too many, there is a table of no place. Among them are numbers that would do, if only their
// lowest bits were looked at.
func TestNewOfTooManyOrTooFew(t *testing.T) {
	for _, places := range []int{math.MinInt, math.MinInt + 1, math.MinInt + 14, -1<<32 + 14, -greatestPlaces, -14, -13, -1, greatestPlaces + 1, greatestPlaces + 14, 1 << 32, 1<<32 + 14, 1 << 62, math.MaxInt - 12, math.MaxInt} {
		checkNoPlace(t, New(places))
	}
}

func checkNoPlace(t *testing.T, x *Table) {
	t.Helper()
	if x == nil {
		t.Fatal("a table of no place is nil")
	}
	p := plainOf(0)
	for range 2 {
		checkTable(t, x, p)
		for _, n := range edges() {
			checkPut(t, x, p, n)
			checkDrop(t, x, p, n)
			checkFind(t, x, p, n)
			checkNoPage(t, x, n)
		}
		x = x.Clone()
	}
}

func TestTableOfNoPlace(t *testing.T) {
	checkNoPlace(t, New(0))
	x, err := Load(0)
	if err != api.OK {
		t.Fatalf("Load(0) = %d", err)
	}
	checkNoPlace(t, x)
	checkNoPlace(t, &Table{})
}

// P12.1, T1: Load.

func TestLoadHowManyNumbers(t *testing.T) {
	for _, places := range append(edges(), 3, 24, 38, 39, 40, 100) {
		for _, n := range []int{0, 1, 2, 11, 12, 13, 14, 15, 25, 26, 27, 28, 38, 39, 40, 52, 100, 104, 105} {
			checkLoad(t, places, noChunks(n))
			if n > 0 { // with a wrong number, too: how many there are is told first
				for _, wrong := range []int{-2, math.MaxInt} {
					checkLoad(t, places, with(noChunks(n), 0, wrong))
					checkLoad(t, places, with(noChunks(n), n-1, wrong))
				}
			}
		}
	}
}

func TestLoadOfTheMostPlaces(t *testing.T) {
	for _, places := range []int{greatestPlaces - 1, greatestPlaces, greatestPlaces + 1} {
		numbers := noChunks(1048593) // a page more than those of 2^20 places, which have 1048580 numbers
		for _, n := range []int{0, places, 1048567, 1048568, 1048579, 1048580, 1048581, 1048593} {
			want := api.ErrArg
			if places <= greatestPlaces && n == 1048580 {
				want = api.OK
			}
			checkLoadErr(t, places, numbers[:n], want)
		}
	}
	numbers := noChunks(1048580)
	numbers[greatestPlaces-1] = 5
	checkLoadErr(t, greatestPlaces, numbers, api.OK)
	checkLoadErr(t, greatestPlaces-1, numbers, api.ErrCorrupt)
	numbers[0] = 5
	checkLoadErr(t, greatestPlaces, numbers, api.ErrCorrupt)
	checkLoadErr(t, greatestPlaces+1, numbers, api.ErrArg)
	numbers[0] = greatestChunk
	x, err := Load(greatestPlaces, numbers...)
	if err != api.OK || !slices.Equal(x.All(), []api.Entry{{Origin: 5, Index: greatestPlaces - 1}, {Origin: greatestChunk, Index: 0}}) {
		t.Errorf("Load of the most places: %d", err)
	}
	for want := 1; want <= 3; want++ {
		if n, err := x.Put(want); n != want || err != api.OK {
			t.Errorf("Put = %d, %d, want %d", n, err, want)
		}
	}
}

// Each number at each place, also behind the last one, where none but -1 may stand.
func TestLoadEachNumberAtEachPlace(t *testing.T) {
	for _, places := range []int{1, 2, 11, 12, 13, 14, 25, 26, 27} {
		empty := noChunks(numbersOf(places))
		full, _ := tableOf(t, places)
		for i := range places {
			full.Put(1000 + i)
		}
		for _, numbers := range [][]int{empty, collect(t, full)} {
			checkLoad(t, places, numbers)
			for at := range numbers {
				for _, n := range edges() {
					checkLoad(t, places, with(numbers, at, n))
				}
			}
		}
	}
}

func TestLoadOfOneChunkTwice(t *testing.T) {
	for _, places := range []int{2, 13, 14, 27} {
		numbers := noChunks(numbersOf(places))
		for a := range numbers {
			for b := range a {
				for _, chunk := range []int{0, 5, greatestChunk} {
					checkLoad(t, places, with(with(numbers, a, chunk), b, chunk))
					checkLoad(t, places, with(with(numbers, a, chunk), b, chunk-1))
				}
				checkLoad(t, places, with(with(numbers, a, -2), b, -2))
			}
		}
	}
}

// All that can stand in a small table's first places, of few numbers.
func TestLoadAllSmallOnes(t *testing.T) {
	some := []int{-2, -1, 0, 1, 2, greatestChunk, greatestChunk + 1}
	for _, places := range []int{0, 1, 2, 3, 4, 13} {
		for _, a := range some {
			for _, b := range some {
				for _, c := range some {
					for _, d := range some {
						checkLoad(t, places, append([]int{a, b, c, d}, noChunks(9)...))
					}
				}
			}
		}
	}
}

// P12.1, T2: Put, Find and Drop.

func TestPut(t *testing.T) {
	x, p := tableOf(t, 14, 9, 4, 7)
	checkDrop(t, x, p, 4)
	checkPut(t, x, p, 1)
	checkTable(t, x, p)
	if got, ok := x.Find(1); got != 1 || !ok {
		t.Errorf("Find(1) = %d, %t", got, ok)
	}
	if got, ok := x.Find(4); got != 0 || ok {
		t.Errorf("Find(4) = %d, %t", got, ok)
	}
	if got, ok := x.Find(9); got != 0 || !ok {
		t.Errorf("Find(9) = %d, %t", got, ok)
	}
}

// Put, Drop and Find of any number, in an empty table, in one with places free, and in a full one.
func TestEdgesOfChunks(t *testing.T) {
	for _, there := range [][]int{nil, {5}, {0, greatestChunk}, {0, 1, 2}, {greatestChunk, greatestChunk - 1, 0}} {
		for _, n := range edges() {
			x, p := tableOf(t, 3, there...)
			checkFind(t, x, p, n)
			checkPut(t, x, p, n)
			checkFind(t, x, p, n)
			checkTable(t, x, p)
			checkPut(t, x, p, n)
			checkTable(t, x, p)
			checkDrop(t, x, p, n)
			checkFind(t, x, p, n)
			checkTable(t, x, p)
			checkDrop(t, x, p, n)
			checkTable(t, x, p)
		}
	}
}

// In a full table a chunk that is there has its place, one that can't be is ErrArg, any other one ErrSpace.
func TestFull(t *testing.T) {
	for _, places := range []int{1, 2, 12, 13, 14, 26, 27} {
		x, p := tableOf(t, places)
		for i := range places {
			checkPut(t, x, p, 100-i)
		}
		for i := range places {
			if n, err := x.Put(100 - i); n != i || err != api.OK {
				t.Errorf("Put of a chunk that is there = %d, %d, want %d", n, err, i)
			}
		}
		for _, c := range []struct {
			chunk int
			want  api.Errno
		}{{0, api.ErrSpace}, {101, api.ErrSpace}, {greatestChunk, api.ErrSpace}, {greatestChunk + 1, api.ErrArg}, {-1, api.ErrArg}, {math.MinInt, api.ErrArg}, {math.MaxInt, api.ErrArg}} {
			if n, err := x.Put(c.chunk); n != 0 || err != c.want {
				t.Errorf("Put(%d) = %d, %d, want %d", c.chunk, n, err, c.want)
			}
		}
		checkTable(t, x, p)
		checkDrop(t, x, p, 100)
		checkPut(t, x, p, greatestChunk)
		checkPut(t, x, p, 100)
		checkTable(t, x, p)
	}
}

// drops goes through all lists of up to most chunks of those that are told, each once in a list.
func drops(chunks []int, most int, visit func([]int)) {
	var visitFrom func(list []int)
	visitFrom = func(list []int) {
		visit(list)
		if len(list) == most {
			return
		}
		for _, chunk := range chunks {
			if !slices.Contains(list, chunk) {
				visitFrom(append(slices.Clone(list), chunk))
			}
		}
	}
	visitFrom(nil)
}

// The first free place behind several Drops in any order, in a table that is full or has places free behind.
func TestFirstFreePlace(t *testing.T) {
	chunks := []int{50, 10, 40, 20, 30, 60}
	for _, places := range []int{6, 7, 20} {
		drops(chunks, 4, func(list []int) {
			x, p := tableOf(t, places, chunks...)
			for _, chunk := range list {
				checkDrop(t, x, p, chunk)
			}
			checkTable(t, x, p)
			for i := range places - len(chunks) + len(list) + 1 {
				checkPut(t, x, p, i)
			}
			checkTable(t, x, p)
		})
	}
}

// Likewise of a great table, whose places are many pages'.
func TestFirstFreePlaceOfManyPages(t *testing.T) {
	x, p := tableOf(t, 100)
	for i := range 100 {
		checkPut(t, x, p, 5000-i*37%100)
	}
	for _, place := range []int{99, 0, 13, 12, 50, 98, 51, 1, 64} {
		checkDrop(t, x, p, p[place])
	}
	checkTable(t, x, p)
	for i := range 10 {
		checkPut(t, x, p, i)
	}
	checkTable(t, x, p)
	for i := range 10 { // and of those that were put last
		checkDrop(t, x, p, 9-i)
		checkPut(t, x, p, 10+i)
	}
	checkTable(t, x, p)
}

// All that a small table can be asked, one call behind the other.
func TestAllSmallPlays(t *testing.T) {
	chunks := []int{3, 0, 7}
	for places := range 4 {
		var play func(x *Table, p plain, left int)
		play = func(x *Table, p plain, left int) {
			checkTable(t, x, p)
			if left == 0 {
				return
			}
			for _, chunk := range chunks {
				y, q := x.Clone(), slices.Clone(p)
				checkPut(t, y, q, chunk)
				play(y, q, left-1)
				y, q = x.Clone(), slices.Clone(p)
				checkDrop(t, y, q, chunk)
				play(y, q, left-1)
			}
		}
		play(New(places), plainOf(places), 5)
	}
}

// Long plays, with a new table of the pages now and then, which goes on as the first does.
func TestLongPlays(t *testing.T) {
	for _, places := range []int{1, 5, 13, 14, 40} {
		x, p := tableOf(t, places)
		seed := uint32(places)
		for i := range 4000 {
			seed = seed*1664525 + 1013904223
			chunk := int(seed >> 16 % uint32(places+places/2+2))
			// Now it is rather filled, now rather emptied.
			if puts := i/300%2 == 0; puts == (seed>>8&3 != 0) {
				checkPut(t, x, p, chunk)
			} else {
				checkDrop(t, x, p, chunk)
			}
			switch i % 7 {
			case 0:
				checkTable(t, x, p)
			case 3:
				x = x.Clone()
			case 5:
				y, err := Load(places, collect(t, x)...)
				if err != api.OK {
					t.Fatalf("Load of its pages: %d", err)
				}
				x = y
			}
		}
	}
}

// P12.1, T2: All and Page.

func TestAll(t *testing.T) {
	if all := New(5).All(); len(all) != 0 {
		t.Errorf("All of an empty table: %v", all)
	}
	drops([]int{0, 9, 10, 100, greatestChunk}, 5, func(list []int) {
		x, p := tableOf(t, 5, list...)
		all := x.All()
		if !slices.IsSortedFunc(all, func(a, b api.Entry) int { return a.Origin - b.Origin }) || len(all) != len(list) {
			t.Errorf("All() = %v", all)
		}
		for i, chunk := range list {
			if !slices.Contains(all, api.Entry{Origin: chunk, Index: i}) {
				t.Errorf("All() = %v, and %d was put at %d", all, chunk, i)
			}
		}
		checkTable(t, x, p)
	})
}

func TestPage(t *testing.T) {
	for _, c := range []struct{ places, pages int }{
		{0, 0}, {1, 1}, {12, 1}, {13, 1}, {14, 2}, {25, 2}, {26, 2}, {27, 3}, {39, 3}, {40, 4}, {greatestPlaces - 8, 80660}, {greatestPlaces - 10, 80659}, {greatestPlaces - 9, 80659}, {greatestPlaces, 80660},
	} {
		x := New(c.places)
		x.Put(8)
		for _, i := range append(edges(), c.pages-1, c.pages, c.pages+1) {
			switch {
			case i < 0 || i >= c.pages:
				checkNoPage(t, x, i)
			case i == 0:
				checkPage(t, x, i, with(noChunks(13), 0, 8))
			default:
				checkPage(t, x, i, noChunks(13))
			}
		}
	}
}

// Each page has its own places; behind the last one, in a full table too, -1 stands.
func TestPagesOfAFullTable(t *testing.T) {
	x, p := tableOf(t, 30)
	for i := range 30 {
		checkPut(t, x, p, 200+i)
	}
	checkPage(t, x, 0, []int{200, 201, 202, 203, 204, 205, 206, 207, 208, 209, 210, 211, 212})
	checkPage(t, x, 1, []int{213, 214, 215, 216, 217, 218, 219, 220, 221, 222, 223, 224, 225})
	checkPage(t, x, 2, []int{226, 227, 228, 229, -1, -1, -1, -1, -1, -1, -1, -1, -1})
	checkDrop(t, x, p, 214)
	checkDrop(t, x, p, 229)
	checkPage(t, x, 1, []int{213, -1, 215, 216, 217, 218, 219, 220, 221, 222, 223, 224, 225})
	checkPage(t, x, 2, []int{226, 227, 228, -1, -1, -1, -1, -1, -1, -1, -1, -1, -1})
	checkTable(t, x, p)
}

// P12.2: a table is loaded from its pages, and goes on as the first does.

// checkAlike holds that two tables tell the same, now and behind the same calls.
func checkAlike(t *testing.T, x, y *Table, p plain) {
	t.Helper()
	checkTable(t, x, p)
	checkTable(t, y, p)
	q := slices.Clone(p)
	for i := range len(p) + 1 {
		checkPut(t, x, p, 2000+i)
		checkPut(t, y, q, 2000+i)
		if i%3 == 0 {
			checkDrop(t, x, p, 2000+i/2)
			checkDrop(t, y, q, 2000+i/2)
		}
	}
	checkTable(t, x, p)
	checkTable(t, y, q)
}

func TestThereAndBack(t *testing.T) {
	for _, places := range []int{0, 1, 2, 12, 13, 14, 25, 26, 27, 100} {
		for _, every := range []int{1, 2, 3, 5, 13, 200} {
			x, p := tableOf(t, places)
			for i := range places {
				checkPut(t, x, p, (i*7+3)%101)
			}
			for i := 0; i < places; i += every {
				checkDrop(t, x, p, p[i])
			}
			numbers := collect(t, x)
			if !slices.Equal(numbers, p.numbers()) {
				t.Errorf("pages %v, want %v", numbers, p.numbers())
			}
			y, err := Load(places, numbers...)
			if err != api.OK {
				t.Errorf("Load of its pages: %d", err)
				continue
			}
			if !slices.Equal(collect(t, y), numbers) {
				t.Errorf("pages of what was loaded %v, want %v", collect(t, y), numbers)
			}
			checkAlike(t, x, y, p)
		}
	}
}

// Each way in which chunks can stand in eight places; the places ahead of them, between, and behind are free.
func TestLoadGoesOn(t *testing.T) {
	for _, places := range []int{8, 9, 20} {
		for mask := range 1 << 8 {
			numbers := noChunks(numbersOf(places))
			for i := range 8 {
				if mask>>i&1 == 1 {
					numbers[i] = 60 - i
				}
			}
			y, err := Load(places, numbers...)
			if err != api.OK {
				t.Fatalf("Load(%v) = %d", numbers, err)
			}
			checkAlike(t, y, y.Clone(), slices.Clone(numbers[:places]))
		}
	}
}

// P12.1, T2: a Clone goes on apart.

func TestClone(t *testing.T) {
	for _, there := range [][]int{nil, {4}, {9, 4, 7}, {9, 4, 7, 1, 0}} {
		for _, dropped := range [][]int{nil, {4}, {4, 9}, {9, 4}} {
			x, p := tableOf(t, 5, there...)
			for _, chunk := range dropped {
				checkDrop(t, x, p, chunk)
			}
			y, q := x.Clone(), slices.Clone(p)
			checkTable(t, y, q)
			for _, chunk := range []int{20, 21, 22} { // one, then the other
				checkPut(t, y, q, chunk)
				checkPut(t, x, p, chunk+100)
				checkTable(t, x, p)
				checkTable(t, y, q)
			}
			for _, chunk := range []int{20, 121, 7, 4} {
				checkDrop(t, x, p, chunk)
				checkTable(t, y, q)
				checkDrop(t, y, q, chunk)
				checkTable(t, x, p)
			}
			for i := range 6 {
				checkPut(t, x, p, 50+i)
				checkPut(t, y, q, 80-i)
			}
			checkTable(t, x, p)
			checkTable(t, y, q)
		}
	}
}

// P1, P2 and the rules that hold everywhere.

func TestNilTable(t *testing.T) {
	var x *Table
	if x.Len() != 0 || x.Left() != 0 || len(x.All()) != 0 || x.Clone() != nil {
		t.Error("a nil table has something")
	}
	for _, n := range edges() {
		if got, ok := x.Find(n); got != 0 || ok {
			t.Errorf("Find(%d) = %d, %t", n, got, ok)
		}
		if got, err := x.Put(n); got != 0 || err != api.ErrArg {
			t.Errorf("Put(%d) = %d, %d", n, got, err)
		}
		if got, err := x.Drop(n); got != 0 || err != api.ErrArg {
			t.Errorf("Drop(%d) = %d, %d", n, got, err)
		}
		if got, err := x.Page(n); len(got) != 0 || err != api.ErrArg {
			t.Errorf("Page(%d) = %v, %d", n, got, err)
		}
	}
}

// What is asked, or refused, changes nothing.
func TestNothingIsChanged(t *testing.T) {
	for _, there := range [][]int{nil, {9, 4, 7}, {9, 4, 7, 0, 1}} {
		x, p := tableOf(t, 5, there...)
		checkDrop(t, x, p, 4)
		for _, n := range append(edges(), 4) {
			x.Find(n)
			x.Page(n)
			if _, ok := p.find(n); !ok {
				checkDrop(t, x, p, n)
			}
			if n < 0 || n > greatestChunk {
				checkPut(t, x, p, n)
			}
			x.All()
			x.Clone()
			checkTable(t, x, p)
		}
		checkAlike(t, x, x.Clone(), p)
	}
}

// All and Page tell new memory each time, and the numbers that Load was given are not kept: of few exceptions, of a
// whole page of them, and of a whole table.
func TestNewMemory(t *testing.T) {
	few := with(with(noChunks(26), 0, 9), 3, 4)
	page, table := slices.Clone(few), slices.Clone(few)
	for i := range 26 {
		if i < 13 {
			page[i] = 300 - i
		}
		table[i] = 400 - i
	}
	for _, numbers := range [][]int{few, page, with(page, 20, 5), table, with(table, 7, -1)} {
		checkNewMemory(t, numbers)
	}
}

// checkNewMemory writes to all that was handed in and told, of a table of 26 places.
func checkNewMemory(t *testing.T, numbers []int) {
	t.Helper()
	memory := append(slices.Clone(numbers), 5, 6, 7) // with numbers behind the list's length
	before := slices.Clone(memory)
	x, err := Load(26, memory[:26]...)
	if err != api.OK || !slices.Equal(memory, before) {
		t.Fatalf("Load = %d; the numbers are %v, were %v", err, memory, before)
	}
	p := plain(slices.Clone(numbers))
	all, entries := x.All(), p.all()
	page, err := x.Page(0)
	if err != api.OK {
		t.Fatalf("Page = %d", err)
	}
	for i := range memory {
		memory[i] = 70 + i
	}
	checkTable(t, x, p)
	checkDrop(t, x, p, p[0])
	checkPut(t, x, p, 1)
	if memory[0] != 70 || memory[1] != 71 || !slices.Equal(all, entries) || !slices.Equal(page, before[:13]) {
		t.Errorf("behind Drop and Put: %v, %v, %v", memory, all, page)
	}
	for i := range all[:cap(all)] {
		all[:cap(all)][i] = api.Entry{Origin: -7, Index: -7}
	}
	for i := range page[:cap(page)] {
		page[:cap(page)][i] = -7
	}
	checkTable(t, x, p)
	checkAlike(t, x, x.Clone(), p)
}

// Another table, and what was asked of it, changes nothing of this one; and the same is told again and again.
func TestTheSameAgain(t *testing.T) {
	first, p := tableOf(t, 14, 9, 4, 7)
	for range 3 {
		other, q := tableOf(t, 14, 9, 4, 7)
		checkDrop(t, other, q, 4)
		checkPut(t, other, q, 1)
		checkTable(t, other, q)
		for range 3 {
			checkTable(t, first, p)
		}
	}
}

// Each call ends, also when all of the most places are taken, freed in no order, and taken again, now and then just the
// first and the last one.
func TestTheMostPlaces(t *testing.T) {
	const step = 611953 // odd, so that its multiples are all places
	x := New(greatestPlaces)
	put := func(chunk, want int) {
		if n, err := x.Put(chunk); n != want || err != api.OK {
			t.Fatalf("Put(%d) = %d, %d, want %d", chunk, n, err, want)
		}
	}
	drop := func(chunk, want int) {
		if n, err := x.Drop(chunk); n != want || err != api.OK {
			t.Fatalf("Drop(%d) = %d, %d, want %d", chunk, n, err, want)
		}
	}
	for i := range greatestPlaces {
		put(greatestChunk-i, i)
	}
	if n, err := x.Put(0); n != 0 || err != api.ErrSpace || x.Left() != 0 || x.Len() != greatestPlaces {
		t.Errorf("Put = %d, %d of a full table, %d, %d", n, err, x.Len(), x.Left())
	}
	for range 100000 {
		drop(greatestChunk, 0)
		drop(greatestChunk-greatestPlaces+1, greatestPlaces-1)
		put(greatestChunk, 0)
		put(greatestChunk-greatestPlaces+1, greatestPlaces-1)
	}
	y, err := Load(greatestPlaces, collect(t, x)...)
	if err != api.OK || !slices.Equal(y.All(), x.All()) {
		t.Errorf("Load of the pages of a full table: %d", err)
	}
	for i := range greatestPlaces {
		place := i * step % greatestPlaces
		drop(greatestChunk-place, place)
	}
	if x.Len() != 0 || x.Left() != greatestPlaces || len(x.All()) != 0 || y.Len() != greatestPlaces {
		t.Errorf("behind all Drops: %d, %d", x.Len(), x.Left())
	}
	for i := range greatestPlaces {
		put(i, i)
	}
}
