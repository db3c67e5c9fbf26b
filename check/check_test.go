package check

import (
	"fmt"
	"math/rand"
	"slices"
	"strings"
	"testing"

	"oakum/api"
)

func used(start, n int, gen uint32) api.Slot {
	return api.Slot{State: api.Used, Store: api.Extent{Start: start, Len: n}, Gen: gen}
}

func merging(start, n int, gen uint32) api.Slot {
	x := used(start, n, gen)
	x.State = api.Merging
	return x
}

func free(gen uint32) api.Slot { return api.Slot{Gen: gen} }

// crowdSuper lets the stores stand from sector 25 on, up to 119.
func crowdSuper() api.Super { return api.Super{Sectors: 120, Origin: 8, Chunk: 2} }

// The slots of a crowd that are not Free; their stores do not stand in their order.
func second() api.Slot { return used(60, 31, 3) }     // room for 14 chunks, on two pages: sectors 61 and 62
func third() api.Slot  { return used(25, 4, 4) }      // invalid
func fourth() api.Slot { return merging(100, 6, 11) } // room for two chunks, on one page: sector 101
func fifth() api.Slot  { return used(30, 28, 7) }     // room for 13 chunks, on one page: sector 31

// crowd are bytes of a disk on which all may stand that there can be.
func crowd() []byte {
	b := bytesOf(crowdSuper())
	set(b, firstSlot, slotSector(free(9)))
	setStore(b, 2, second(), api.Head{Gen: 3, Chunk: 2, Cap: 14}, 3, -1, 0, 7, -1, -1, -1, -1, -1, -1, -1, -1, 1, 2)
	setStore(b, 3, third(), api.Head{Gen: 4, Chunk: 2, Cap: 1, Invalid: true})
	setStore(b, 4, fourth(), api.Head{Gen: 11, Chunk: 2, Cap: 2}, -1, 3)
	setStore(b, 5, fifth(), api.Head{Gen: 7, Chunk: 2, Cap: 13})
	return b
}

// crowdReport is what stands there.
func crowdReport() Report {
	return Report{Super: crowdSuper(), Lines: []Line{
		{ID: 2, Slot: second(), Room: 14, Entries: []api.Entry{{Origin: 0, Index: 2}, {Origin: 1, Index: 12}, {Origin: 2, Index: 13}, {Origin: 3, Index: 0}, {Origin: 7, Index: 3}}},
		{ID: 3, Slot: third(), Room: 1, Invalid: true},
		{ID: 4, Slot: fourth(), Room: 2, Entries: []api.Entry{{Origin: 3, Index: 1}}},
		{ID: 5, Slot: fifth(), Room: 13},
	}}
}

// P19.1, K1: reports.

func TestReportOfACrowd(t *testing.T) {
	checkReport(t, "a crowd", string(crowd()), crowdReport())
	checkJust(t, "a crowd", string(crowd()))
}

func TestReportWithoutSnapshots(t *testing.T) {
	for _, x := range []api.Super{
		crowdSuper(), {Sectors: 18, Origin: 1, Chunk: 1}, {Sectors: 18, Origin: 1, Chunk: 128}, {Sectors: 25, Origin: 8, Chunk: 2}, {Sectors: 26, Origin: 8, Chunk: 3}, {Sectors: 300, Origin: 3, Chunk: 128},
	} {
		b := bytesOf(x)
		checkReport(t, fmt.Sprint(x), string(b), Report{Super: x})
		for i := range slotCount { // of whatever generation a slot is that is Free
			set(b, firstSlot+i, slotSector(free(uint32(i*1000))))
		}
		set(b, firstSlot, slotSector(free(greatestGen)))
		checkReport(t, fmt.Sprint(x), string(b), Report{Super: x})
	}
}

// Each slot may be Used, or Merging; its ID is its number from 1 on.
func TestReportOfEachSlot(t *testing.T) {
	for id := 1; id <= slotCount; id++ {
		for _, x := range []api.Slot{used(40, 6, 1), merging(116, 4, greatestGen)} {
			b := bytesOf(crowdSuper())
			room := roomOf(x.Store.Len, 2)
			setStore(b, id, x, api.Head{Gen: x.Gen, Chunk: 2, Cap: room}, 3)
			want := Report{Super: crowdSuper(), Lines: []Line{{ID: id, Slot: x, Room: room, Entries: []api.Entry{{Origin: 3}}}}}
			checkReport(t, fmt.Sprint(id, x), string(b), want)
		}
	}
}

// All slots at once, whose stores fill all that there is, from the last sector down.
func TestReportOfAllSlots(t *testing.T) {
	parted := api.Super{Sectors: 17 + 5 + 16*4, Origin: 5, Chunk: 2}
	b, want := bytesOf(parted), Report{Super: parted}
	for i := range slotCount {
		x := used(parted.Sectors-4*(i+1), 4, uint32(i+1))
		if i == 9 {
			x.State = api.Merging
		}
		setStore(b, i+1, x, api.Head{Gen: x.Gen, Chunk: 2, Cap: 1, Invalid: i%4 == 2}, i)
		line := Line{ID: i + 1, Slot: x, Room: 1, Invalid: i%4 == 2}
		if !line.Invalid {
			line.Entries = []api.Entry{{Origin: i}}
		}
		want.Lines = append(want.Lines, line)
	}
	checkReport(t, "all slots", string(b), want)
	checkJust(t, "all slots", string(b))
}

// A store may have more sectors than its room needs; its last page has places that are none's.
func TestReportOfRooms(t *testing.T) {
	for _, chunk := range []int{1, 2, 3, 7} {
		parted := api.Super{Sectors: 17 + 40 + 400, Origin: 40, Chunk: chunk}
		for n := 2 + chunk; n <= 400; n += 1 + n/60 {
			x, room := used(57, n, 5), roomOf(n, chunk)
			b := bytesOf(parted)
			chunks := rand.New(rand.NewSource(int64(n))).Perm(room)
			setStore(b, 1, x, api.Head{Gen: 5, Chunk: chunk, Cap: room}, chunks...)
			line := Line{ID: 1, Slot: x, Room: room}
			for c := range room {
				line.Entries = append(line.Entries, api.Entry{Origin: c, Index: slices.Index(chunks, c)})
			}
			checkReport(t, fmt.Sprint(chunk, n), string(b), Report{Super: parted, Lines: []Line{line}})
		}
	}
}

// A store may tell of chunks that the origin hasn't: of them nobody says that they are wrong.
func TestReportOfChunksBehindTheOrigin(t *testing.T) {
	b := bytesOf(crowdSuper())
	setStore(b, 1, used(25, 31, 1), api.Head{Gen: 1, Chunk: 2, Cap: 14}, mostChunk, 4, 1<<30, 3)
	want := []api.Entry{{Origin: 3, Index: 3}, {Origin: 4, Index: 1}, {Origin: 1 << 30, Index: 2}, {Origin: mostChunk}}
	checkReport(t, "chunks behind the origin", string(b), Report{Super: crowdSuper(), Lines: []Line{{ID: 1, Slot: used(25, 31, 1), Room: 14, Entries: want}}})
	checkJust(t, "chunks behind the origin", string(b))
}

// The pages of an invalid store are not looked at, whatever its chunks are; nor is anything of the origin and the chunks.
func TestReportOfWhatIsNotLookedAt(t *testing.T) {
	whole := crowd()
	for sector := firstSlot + slotCount; sector < 120; sector++ {
		if slices.Contains([]int{60, 61, 62, 25, 100, 101, 30, 31}, sector) {
			continue
		}
		for _, data := range []string{junk("other"), strings.Repeat("\x00", sectorSize), superSector(crowdSuper()), slotSector(fourth()), headSector(api.Head{Gen: 3, Chunk: 2, Cap: 14})} {
			b := slices.Clone(whole)
			set(b, sector, data)
			checkReport(t, fmt.Sprint("sector ", sector), string(b), crowdReport())
		}
	}
}

// P19.1: bytes that are cut off, or more than the superblock says.

// All that is cut off of the last sector is as if 0 stood there; what stands there is not looked at.
func TestLastSectorCutOff(t *testing.T) {
	s := string(crowd())
	last := len(s) - sectorSize
	for n := range len(s) + 1 {
		switch {
		case n > last:
			checkReport(t, fmt.Sprint("bytes ", n), s[:n], crowdReport())
		case n == 0:
			checkFault(t, "no byte", "", fault{0, api.ErrCut})
		case n < sectorSize:
			checkFault(t, fmt.Sprint("bytes ", n), s[:n], fault{0, api.ErrSum})
		default:
			checkFault(t, fmt.Sprint("bytes ", n), s[:n], fault{0, api.ErrRange})
		}
	}
}

// Behind what is cut off of the only sector stands 0, too: so a superblock whose sum ends with it is one, cut off or not.
func TestOnlySectorCutOff(t *testing.T) {
	found := 0
	for n := 18; n < 3000; n++ {
		s := superSector(api.Super{Sectors: n, Origin: 1, Chunk: 1})
		want := fault{0, api.ErrSum}
		if s[sectorSize-1] == 0 {
			want.err = api.ErrRange
			found++
		}
		checkFault(t, fmt.Sprint("sectors ", n), s[:sectorSize-1], want)
		checkFault(t, fmt.Sprint("sectors ", n), s, fault{0, api.ErrRange})
	}
	if found == 0 {
		t.Error("no sum ends with 0")
	}
	for n := 1; n <= sectorSize; n++ {
		checkFault(t, fmt.Sprint("bytes 0, ", n), strings.Repeat("\x00", n), fault{0, api.ErrSum})
	}
}

// Sectors behind those that the superblock says are not looked at, nor may a store stand there.
func TestMoreSectors(t *testing.T) {
	s := string(crowd())
	for _, more := range []string{"x", junk("more"), junk("more") + "x", s, strings.Repeat("\x00", 1000)} {
		checkReport(t, fmt.Sprint("more ", len(more)), s+more, crowdReport())
	}
	b := []byte(s + strings.Repeat(junk("more"), 40))
	setStore(b, 16, used(120, 4, 1), api.Head{Gen: 1, Chunk: 2, Cap: 1})
	checkFault(t, "a store behind all", string(b), fault{16, api.ErrRange})
	setStore(b, 16, used(117, 4, 1), api.Head{Gen: 1, Chunk: 2, Cap: 1})
	checkFault(t, "a store over the end", string(b), fault{16, api.ErrRange})
	setStore(b, 16, used(116, 4, 1), api.Head{Gen: 1, Chunk: 2, Cap: 1})
	checkJust(t, "a store at the end", string(b))
}

// A superblock may say more or fewer sectors than those that were formatted.
func TestSectorsOfTheSuperblock(t *testing.T) {
	for n := 25; n < 130; n++ {
		b := crowd()
		set(b, 0, superSector(api.Super{Sectors: n, Origin: 8, Chunk: 2}))
		checkJust(t, fmt.Sprint("sectors ", n), string(b))
		if n > 120 {
			checkFault(t, fmt.Sprint("sectors ", n), string(b), fault{0, api.ErrRange})
		}
	}
	b := crowd()
	set(b, 0, superSector(api.Super{Sectors: diskEnd, Origin: diskEnd - 17, Chunk: 128}))
	checkFault(t, "the greatest disk", string(b), fault{0, api.ErrRange})
}

// P19.1: each thing that is wrong.

// harm is something wrong that is done to a crowd's bytes: what is told of it, ahead of which others that is told, and the
// sectors on which that hangs.
type harm struct {
	name  string
	want  fault
	order int
	on    []int
	do    func(b []byte) []byte
}

// writes is a harm that lets a sector be of bytes.
func writes(name string, want fault, order, sector int, data string, on ...int) harm {
	do := func(b []byte) []byte {
		set(b, sector, data)
		return b
	}
	return harm{fmt.Sprint(name, " ", sector), want, order, append(on, sector), do}
}

// The orders of what is wrong: by steps of the chapter, in each by slots, and of a slot by what is looked at.
func ofSuper(k int) int    { return k }
func ofSector(i int) int   { return 10000 + 100*i }
func ofSlot(i, k int) int  { return 20000 + 100*i + k }
func ofStore(i, k int) int { return 30000 + 100*i + k }

func superHarms() []harm {
	bad := crowdSuper()
	bad.Origin = 0
	return []harm{
		writes("superblock's sum", fault{0, api.ErrSum}, ofSuper(0), 0, junk("nothing")),
		writes("superblock's letters", fault{0, api.ErrMagic}, ofSuper(1), 0, slotSector(fifth())),
		writes("superblock's form", fault{0, api.ErrForm}, ofSuper(2), 0, superSector(bad)),
		writes("superblock's sectors", fault{0, api.ErrRange}, ofSuper(3), 0, superSector(api.Super{Sectors: 121, Origin: 8, Chunk: 2})),
		{"fewer sectors", fault{0, api.ErrRange}, ofSuper(3), []int{119}, func(b []byte) []byte { return b[:119*sectorSize] }},
	}
}

// slotHarms are those of a slot's sector, and of what it says beside the others. The crowd's i-th slot is Merging for i = 3.
func slotHarms(i int) []harm {
	at := firstSlot + i
	l := []harm{
		writes("slot's sum", fault{at, api.ErrSum}, ofSector(i), at, junk("nothing")),
		writes("slot's letters", fault{at, api.ErrMagic}, ofSector(i), at, headSector(api.Head{Gen: 3, Chunk: 2, Cap: 14})),
		writes("slot's state", fault{at, api.ErrForm}, ofSector(i), at, slotSector(api.Slot{State: 3, Store: api.Extent{Start: 110, Len: 10}, Gen: 1})),
		writes("slot's generation", fault{at, api.ErrForm}, ofSector(i), at, slotSector(used(110, 10, 0))),
		writes("store ahead of all", fault{at, api.ErrRange}, ofSlot(i, 0), at, slotSector(used(24, 6, 2))),
		writes("store behind all", fault{at, api.ErrRange}, ofSlot(i, 0), at, slotSector(used(117, 4, 2))),
	}
	if i > 1 {
		l = append(l, writes("store in another", fault{at, api.ErrRange}, ofSlot(i, 0), at, slotSector(used(65, 4, 2)), 2))
	}
	if i < 3 {
		l = append(l, writes("merging ahead", fault{4, api.ErrBusy}, ofSlot(3, 1), at, slotSector(merging(110, 10, 2)), 4, 110))
	}
	if i > 3 {
		l = append(l, writes("merging behind", fault{at, api.ErrBusy}, ofSlot(i, 1), at, slotSector(merging(110, 10, 2)), 4))
		l = append(l, writes("merging in another", fault{at, api.ErrRange}, ofSlot(i, 0), at, slotSector(merging(60, 31, 2)), 2))
	}
	return l
}

// storeHarms are those of the i-th slot's store, which is valid, and has this room.
func storeHarms(i int, x api.Slot, room int) []harm {
	at, first := firstSlot+i, x.Store.Start
	h := api.Head{Gen: x.Gen, Chunk: 2, Cap: room}
	other := func(change func(h *api.Head)) string {
		changed := h
		change(&changed)
		return headSector(changed)
	}
	short, generation := x, x
	short.Store.Len = 3
	generation.Gen += 100
	l := []harm{
		writes("store without room", fault{first, api.ErrSpace}, ofStore(i, 0), at, slotSector(short)),
		writes("slot's other generation", fault{first, api.ErrForm}, ofStore(i, 4), at, slotSector(generation)),
		writes("head's sum", fault{first, api.ErrSum}, ofStore(i, 1), first, junk("nothing")),
		writes("head's letters", fault{first, api.ErrMagic}, ofStore(i, 1), first, pageSector(x.Gen)),
		writes("head's form", fault{first, api.ErrForm}, ofStore(i, 1), first, other(func(h *api.Head) { h.Chunk = 129 })),
		writes("head's generation", fault{first, api.ErrForm}, ofStore(i, 4), first, other(func(h *api.Head) { h.Gen++ })),
		writes("head's chunk", fault{first, api.ErrForm}, ofStore(i, 4), first, other(func(h *api.Head) { h.Chunk = 1 })),
		writes("head's room", fault{first, api.ErrForm}, ofStore(i, 4), first, other(func(h *api.Head) { h.Cap++ })),
		writes("invalid head's room", fault{first, api.ErrForm}, ofStore(i, 4), first, other(func(h *api.Head) { h.Cap, h.Invalid = 1, true })),
	}
	if x.State == api.Merging {
		l = append(l, writes("invalid and merging", fault{first, api.ErrBusy}, ofStore(i, 5), first, other(func(h *api.Head) { h.Invalid = true })))
	}
	for k := range pagesOf(room) {
		l = append(l, pageHarms(i, k, x)...)
	}
	return append(l, loadHarms(i, x, room)...)
}

// pageHarms are those of the k-th page of the i-th slot's store.
func pageHarms(i, k int, x api.Slot) []harm {
	sector, order := x.Store.Start+1+k, ofStore(i, 10+k)
	behind := []byte(pageSector(x.Gen))[:sectorSize-sumSize]
	behind[len(behind)-1] = 1
	great := pageSector(x.Gen, 0, mostChunk+1)
	return []harm{
		writes("page's sum", fault{sector, api.ErrSum}, order, sector, junk("nothing")),
		writes("page's last byte", fault{sector, api.ErrForm}, order, sector, sealed(string(behind))),
		writes("page's chunk", fault{sector, api.ErrForm}, order, sector, great),
		writes("page's generation", fault{sector, api.ErrForm}, order, sector, pageSector(x.Gen+1)),
		writes("page's generation 0", fault{sector, api.ErrForm}, order, sector, pageSector(0, 0, 0)),
	}
}

// loadHarms are those of all pages together, of which the last one is changed.
func loadHarms(i int, x api.Slot, room int) []harm {
	first, last := x.Store.Start, pagesOf(room)-1
	sector := first + 1 + last
	l := []harm{writes("a chunk twice", fault{first, api.ErrCorrupt}, ofStore(i, 90), sector, pageSector(x.Gen, 5, 5))}
	if behind := room - last*pageEntries; behind < pageEntries { // a place that is none's
		chunks := slices.Repeat([]int{-1}, behind)
		l = append(l, writes("a chunk behind all", fault{first, api.ErrCorrupt}, ofStore(i, 90), sector, pageSector(x.Gen, append(chunks, 5)...)))
	}
	return l
}

// harms are all of them.
func harms() []harm {
	l := superHarms()
	for i := range slotCount {
		l = append(l, slotHarms(i)...)
	}
	l = append(l, storeHarms(1, second(), 14)...)
	l = append(l, storeHarms(3, fourth(), 2)...)
	l = append(l, storeHarms(4, fifth(), 13)...)
	generation := third()
	generation.Gen += 100
	l = append(l,
		writes("invalid store without room", fault{25, api.ErrSpace}, ofStore(2, 0), 3, slotSector(used(25, 3, 4))),
		writes("invalid store's slot", fault{25, api.ErrForm}, ofStore(2, 4), 3, slotSector(generation)),
		writes("invalid head's sum", fault{25, api.ErrSum}, ofStore(2, 1), 25, junk("nothing")),
		writes("invalid head's chunk", fault{25, api.ErrForm}, ofStore(2, 4), 25, headSector(api.Head{Gen: 4, Chunk: 3, Cap: 1, Invalid: true})),
		writes("not invalid any more", fault{26, api.ErrSum}, ofStore(2, 10), 25, headSector(api.Head{Gen: 4, Chunk: 2, Cap: 1}), 26),
		writes("a chunk on two pages", fault{60, api.ErrCorrupt}, ofStore(1, 90), 62, pageSector(3, 7)),
	)
	return l
}

func TestEachThingThatIsWrong(t *testing.T) {
	for _, x := range harms() {
		s := string(x.do(crowd()))
		checkFault(t, x.name, s, x.want)
		checkJust(t, x.name, s)
	}
}

// apart tells whether two harms hang on other sectors.
func (x harm) apart(y harm) bool {
	return !slices.ContainsFunc(x.on, func(sector int) bool { return slices.Contains(y.on, sector) })
}

// checkHarms holds that of several the first one is told, in the chapter's order, in whatever order they are done. Those that
// cut sectors off come last, so that the others have these.
func checkHarms(t testing.TB, whole []byte, l ...harm) {
	t.Helper()
	first := slices.MinFunc(l, func(x, y harm) int { return x.order - y.order })
	slices.SortStableFunc(l, func(x, y harm) int { return x.on[0] - y.on[0] })
	b, names := slices.Clone(whole), ""
	for _, x := range l {
		b = x.do(b)
		names += x.name + "; "
	}
	checkFault(t, names, string(b), first.want)
}

func TestTwoThingsThatAreWrong(t *testing.T) {
	all, whole := harms(), crowd()
	for i, x := range all {
		for _, y := range all[:i] {
			if x.apart(y) {
				checkHarms(t, whole, x, y)
			}
		}
	}
}

func TestManyThingsThatAreWrong(t *testing.T) {
	all, whole, r := harms(), crowd(), rand.New(rand.NewSource(19))
	for range 20000 {
		var l []harm
		for range 2 + r.Intn(8) {
			x := all[r.Intn(len(all))]
			if !slices.ContainsFunc(l, func(y harm) bool { return !x.apart(y) }) {
				l = append(l, x)
			}
		}
		checkHarms(t, whole, l...)
	}
}

// Several things that are wrong with one sector.
func TestOneSectorThatIsWrongTwice(t *testing.T) {
	turned := func(s string) string { return s[:sectorSize-1] + string(s[sectorSize-1]^1) }
	none := api.Super{Sectors: 200, Chunk: 2}
	for _, x := range []struct {
		what   string
		sector int
		data   string
		want   fault
	}{
		{"superblock: sum, letters", 0, turned(sealed("OAK2")), fault{0, api.ErrSum}},
		{"superblock: sum, form", 0, turned(superSector(none)), fault{0, api.ErrSum}},
		{"superblock: letters, form", 0, sealed("OAK2"), fault{0, api.ErrMagic}},
		{"superblock: form, sectors", 0, superSector(none), fault{0, api.ErrForm}},
		{"slot: sum, letters", 5, turned(sealed("OAKT")), fault{5, api.ErrSum}},
		{"slot: letters, form", 5, sealed("OAKT\x03"), fault{5, api.ErrMagic}},
		{"slot: form, a store that may not be", 5, slotSector(used(0, 0, 1)), fault{5, api.ErrForm}},
		{"slot: a store that may not be, merging", 5, slotSector(merging(24, 4, 1)), fault{5, api.ErrRange}},
		{"slot: the one's store that is merging, merging", 5, slotSector(merging(100, 6, 11)), fault{5, api.ErrRange}},
		{"slot: merging, no room", 5, slotSector(merging(110, 3, 1)), fault{5, api.ErrBusy}},
		{"slot: no room, no head", 5, slotSector(used(110, 3, 1)), fault{110, api.ErrSpace}},
		{"head: sum, letters", 100, turned(sealed("OAKX")), fault{100, api.ErrSum}},
		{"head: letters, form", 100, sealed("OAKX"), fault{100, api.ErrMagic}},
		{"head: form, generation", 100, headSector(api.Head{Gen: 1, Chunk: 0, Cap: 1}), fault{100, api.ErrForm}},
		{"head: generation, invalid and merging", 100, headSector(api.Head{Gen: 12, Chunk: 2, Cap: 2, Invalid: true}), fault{100, api.ErrForm}},
		{"head: chunk, invalid and merging", 100, headSector(api.Head{Gen: 11, Chunk: 4, Cap: 2, Invalid: true}), fault{100, api.ErrForm}},
		{"head: room, invalid and merging", 100, headSector(api.Head{Gen: 11, Chunk: 2, Cap: 3, Invalid: true}), fault{100, api.ErrForm}},
		{"page: sum, form", 101, turned(pageSector(11, -2)), fault{101, api.ErrSum}},
		{"page: form, a chunk twice", 101, pageSector(11, 5, 5, mostChunk+1), fault{101, api.ErrForm}},
		{"page: generation, a chunk twice", 101, pageSector(12, 5, 5), fault{101, api.ErrForm}},
		{"page: generation, a chunk behind all", 101, pageSector(10, -1, -1, 5), fault{101, api.ErrForm}},
		{"page: a chunk twice, behind all", 101, pageSector(11, 5, -1, 5), fault{100, api.ErrCorrupt}},
	} {
		b := crowd()
		set(b, x.sector, x.data)
		checkFault(t, x.what, string(b), x.want)
		checkJust(t, x.what, string(b))
	}
}

// The pages are looked at ahead of all that they tell of together, store by store.
func TestPagesAheadOfTables(t *testing.T) {
	b := crowd()
	set(b, 61, pageSector(3, 4, 4))
	checkFault(t, "a chunk twice", string(b), fault{60, api.ErrCorrupt})
	set(b, 62, junk("nothing"))
	checkFault(t, "and the second page's sum", string(b), fault{62, api.ErrSum})
	set(b, 62, pageSector(4, 2))
	checkFault(t, "and the second page's generation", string(b), fault{62, api.ErrForm})
	set(b, 61, pageSector(4, 4, 4))
	checkFault(t, "and the first one's", string(b), fault{61, api.ErrForm})
	set(b, 101, junk("nothing"))
	checkFault(t, "and the page of a slot behind", string(b), fault{61, api.ErrForm})
	set(b, 61, pageSector(3, 4))
	set(b, 62, pageSector(3, 4))
	checkFault(t, "a chunk on two pages, and the page of a slot behind", string(b), fault{60, api.ErrCorrupt})
	set(b, 62, pageSector(3, 5))
	checkFault(t, "the page of a slot behind", string(b), fault{101, api.ErrSum})
}

// Stores in each place of a small region: just those may stand beside one that is there.
func TestStoresBesideEachOther(t *testing.T) {
	parted := api.Super{Sectors: 17 + 1 + 12, Origin: 1, Chunk: 1}
	for start := 16; start <= 32; start++ {
		for n := 3; n <= 14; n++ {
			for _, l := range [][]int{{1, 2}, {2, 1}, {16, 3}} {
				b := bytesOf(parted)
				setStore(b, l[0], used(22, 4, 1), api.Head{Gen: 1, Chunk: 1, Cap: 2})
				set(b, firstSlot+l[1]-1, slotSector(used(start, n, 2)))
				want := fault{max(l[0], l[1]), api.ErrRange}
				switch {
				case start < 18 || start+n > 30:
					want.sector = l[1]
				case start+n <= 22 || start >= 26: // what stands there is no head
					want = fault{start, api.ErrSum}
				}
				checkFault(t, fmt.Sprint(l, start, n), string(b), want)
				checkJust(t, fmt.Sprint(l, start, n), string(b))
			}
		}
	}
}

// Stores that have no room, for each size of a chunk: those of a sector less than one chunk needs.
func TestStoresWithoutRoom(t *testing.T) {
	for chunk := 1; chunk <= 128; chunk++ {
		parted := api.Super{Sectors: 17 + 5 + 140, Origin: 5, Chunk: chunk}
		for _, n := range []int{1, 2, chunk, chunk + 1} {
			b := bytesOf(parted)
			setStore(b, 7, merging(22, n, 1), api.Head{Gen: 1, Chunk: chunk, Cap: 1})
			checkFault(t, fmt.Sprint(chunk, n), string(b), fault{22, api.ErrSpace})
		}
		b := bytesOf(parted)
		setStore(b, 7, merging(22, chunk+2, 1), api.Head{Gen: 1, Chunk: chunk, Cap: 1})
		checkReport(t, fmt.Sprint(chunk), string(b), Report{Super: parted, Lines: []Line{{ID: 7, Slot: merging(22, chunk+2, 1), Room: 1}}})
	}
}

// The greatest disk, with a store on 70000 pages behind a small one, and with more sectors still.
func TestTheGreatestDisk(t *testing.T) {
	parted := api.Super{Sectors: diskEnd, Origin: 1000, Chunk: 1}
	b := make([]byte, diskEnd*sectorSize)
	set(b, 0, superSector(parted))
	for i := range slotCount {
		set(b, firstSlot+i, slotSector(free(uint32(i))))
	}
	x := used(1020, diskEnd-1020, 9)
	room := roomOf(x.Store.Len, 1)
	var chunks []int
	for place := range room {
		chunks = append(chunks, room-place)
	}
	setStore(b, 16, x, api.Head{Gen: 9, Chunk: 1, Cap: room}, chunks...)
	setStore(b, 1, used(1017, 3, 8), api.Head{Gen: 8, Chunk: 1, Cap: 1}, 0)
	r, sector, err := Bytes(string(b))
	if sector != 0 || err != api.OK || r.Super != parted || len(r.Lines) != 2 || len(r.Lines[1].Entries) != room {
		t.Fatalf("%v, sector %d, error %d, %d lines", r.Super, sector, err, len(r.Lines))
	}
	for i, e := range r.Lines[1].Entries {
		if e != (api.Entry{Origin: i + 1, Index: room - i - 1}) {
			t.Fatalf("entry %d is %v", i, e)
		}
	}
	if more, _, err := Bytes(string(b) + "more"); err != api.OK || !sameReports(more, r) {
		t.Errorf("more than the greatest disk has: error %d", err)
	}
	last := x.Store.Start + pagesOf(room)
	set(b, last, pageSector(9, room))
	checkFault(t, "the last page has the first place's chunk", string(b), fault{x.Store.Start, api.ErrCorrupt})
	set(b, last, pageSector(8))
	checkFault(t, "the last page has another generation", string(b), fault{last, api.ErrForm})
}

// Rule 4: no two lists of one answer share memory, nor do those of two answers.
func TestAnswersShareNothing(t *testing.T) {
	s := string(crowd())
	r, _, _ := Bytes(s)
	again, _, _ := Bytes(s)
	for i := range r.Lines {
		entries := append(r.Lines[i].Entries, make([]api.Entry, 20)...)
		for k := range entries {
			entries[k] = api.Entry{Origin: -1, Index: -1}
		}
		for k := range r.Lines[i].Entries {
			r.Lines[i].Entries[k] = api.Entry{Origin: -2, Index: -2}
		}
		for k, x := range r.Lines[i+1:] {
			if want := crowdReport().Lines[i+1+k]; !sameLines(x, want) {
				t.Fatalf("%v, want %v", x, want)
			}
		}
	}
	_ = append(r.Lines, make([]Line, 20)...)
	clear(r.Lines)
	if !sameReports(again, crowdReport()) {
		t.Errorf("%v", again)
	}
	checkReport(t, "a crowd", s, crowdReport())
}
