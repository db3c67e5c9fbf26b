package check

import (
	"fmt"
	"math/rand"
	"slices"
	"strings"
	"testing"

	"oakum/api"
	"oakum/disk"
	"oakum/snap"
)

// P19.2: nothing is wrong with bytes just if they can be opened, whatever they are.

// lookedAt are the sectors of a crowd that are looked at, and the first page of the store that is invalid.
func lookedAt() []int {
	l := []int{60, 61, 62, 25, 26, 100, 101, 30, 31}
	for sector := range firstOrigin {
		l = append(l, sector)
	}
	return l
}

// A byte that is another one is seen where something is looked at, and nowhere else.
func TestEachByteTurned(t *testing.T) {
	whole := crowd()
	at := lookedAt()
	for i := range whole {
		b := slices.Clone(whole)
		b[i] ^= byte(1 << (i % 8))
		want := sound
		if sector := i / sectorSize; slices.Contains(at, sector) && sector != 26 {
			want = fault{sector, api.ErrSum}
		}
		if f := checkJust(t, fmt.Sprint("byte ", i), string(b)); f != want {
			t.Fatalf("byte %d: %v, want %v", i, f, want)
		}
	}
}

// Each byte of each body that is looked at is another one, and has its sum.
func TestEachByteSealedAgain(t *testing.T) {
	for _, sector := range lookedAt() {
		t.Run(fmt.Sprint(sector), func(t *testing.T) {
			t.Parallel()
			whole := crowd()
			for i := range sectorSize - sumSize {
				for _, x := range []byte{0, 1, 2, 3, 4, 11, 25, 0x7f, 0x80, 0xff, whole[sector*sectorSize+i] ^ 1, whole[sector*sectorSize+i] + 1} {
					b := slices.Clone(whole)
					b[sector*sectorSize+i] = x
					set(b, sector, sealed(sectorOf(b, sector)[:sectorSize-sumSize]))
					checkJust(t, fmt.Sprint("byte ", i, " of ", sector, " is ", x), string(b))
				}
			}
		})
	}
}

// Each sector stands instead of each other one, and both of them instead of each other.
func TestEachSectorElsewhere(t *testing.T) {
	whole := crowd()
	for _, to := range lookedAt() {
		for _, from := range append(lookedAt(), 17, 63, 119) {
			b := slices.Clone(whole)
			set(b, to, sectorOf(whole, from))
			checkJust(t, fmt.Sprint(from, " instead of ", to), string(b))
			set(b, from, sectorOf(whole, to))
			checkJust(t, fmt.Sprint(from, " and ", to), string(b))
		}
	}
}

// changer makes bytes that are more or less those of a disk.
type changer struct {
	*rand.Rand
	parted api.Super
}

// oneOf is a number among some.
func (r changer) oneOf(l ...int) int { return l[r.Intn(len(l))] }

// sector is any one, mostly one that is looked at.
func (r changer) sector(b []byte) int {
	if at := lookedAt(); r.Intn(4) > 0 {
		return r.oneOf(at...)
	}
	return r.Intn(len(b) / sectorSize)
}

func (r changer) slot() api.Slot {
	return api.Slot{
		State: api.State(r.oneOf(0, 1, 1, 1, 1, 2, 3)),
		Store: api.Extent{Start: r.oneOf(0, 24, 25, 26, 29, 60, 100, 106, 110, 116, 117, 30), Len: r.oneOf(0, 1, 3, 4, 5, 6, 10, 28, 31)},
		Gen:   uint32(r.oneOf(0, 1, 3, 4, 7, 11)),
	}
}

func (r changer) head() api.Head {
	return api.Head{Gen: uint32(r.oneOf(0, 1, 3, 4, 7, 11)), Chunk: r.oneOf(0, 1, 2, 2, 2, 3, 128, 129), Cap: r.oneOf(0, 1, 2, 4, 13, 14, 15), Invalid: r.Intn(3) == 0}
}

func (r changer) page() string {
	var chunks []int
	for range r.Intn(pageEntries + 1) {
		chunks = append(chunks, r.oneOf(-1, -1, -1, 0, 1, 2, 3, 7, mostChunk, r.Intn(1000), r.Intn(1000)))
	}
	return pageSector(uint32(r.oneOf(0, 1, 3, 4, 7, 11)), chunks...)
}

// change lets something be other; what it was.
func (r changer) change(b []byte) []byte {
	sector := r.sector(b)
	switch r.Intn(9) {
	case 0:
		b[r.Intn(len(b))] ^= byte(1 << r.Intn(8))
	case 1:
		b[sector*sectorSize+r.Intn(sectorSize-sumSize)] = byte(r.Intn(256))
		set(b, sector, sealed(sectorOf(b, sector)[:sectorSize-sumSize]))
	case 2:
		set(b, sector, sectorOf(b, r.sector(b)))
	case 3:
		x := r.parted
		x.Sectors, x.Origin, x.Chunk = x.Sectors+r.oneOf(-50, -4, -1, 0, 0, 0, 1), x.Origin+r.oneOf(-8, -1, 0, 0, 0, 1), x.Chunk+r.oneOf(-2, -1, 0, 0, 0, 1)
		set(b, 0, superSector(x))
	case 4:
		set(b, firstSlot+r.Intn(slotCount), slotSector(r.slot()))
	case 5:
		set(b, r.oneOf(25, 30, 60, 100, 106, 110), headSector(r.head()))
	case 6:
		set(b, r.oneOf(26, 31, 61, 62, 101, 107, 111), r.page())
	case 7: // a whole store, as it should be
		x := r.slot()
		x.State, x.Gen = api.State(1+r.Intn(2)), x.Gen+1
		if x.Store.Start >= 25 && x.Store.Start+x.Store.Len <= 120 {
			h := api.Head{Gen: x.Gen, Chunk: 2, Cap: roomOf(x.Store.Len, 2), Invalid: r.Intn(4) == 0}
			setStore(b, 1+r.Intn(slotCount), x, h, r.Perm(h.Cap)...)
		}
	default:
		set(b, firstSlot+r.Intn(slotCount), slotSector(free(uint32(r.Intn(20)))))
	}
	return b
}

// Some changes, whatever they are: each error is seen, and bytes with which nothing is wrong, too.
func TestManyChanges(t *testing.T) {
	for _, seed := range []int64{1, 2, 3, 4, 5, 6, 7, 8} {
		t.Run(fmt.Sprint(seed), func(t *testing.T) {
			t.Parallel()
			r, whole, seen := changer{rand.New(rand.NewSource(seed)), crowdSuper()}, crowd(), map[api.Errno]int{}
			for k := range 4000 {
				b := slices.Clone(whole)
				for range 1 + r.Intn(4) {
					b = r.change(b)
				}
				if r.Intn(20) == 0 {
					b = b[:len(b)-r.Intn(2*sectorSize)]
				}
				f := checkJust(t, fmt.Sprint("seed ", seed, ", ", k), string(b))
				seen[f.err]++
			}
			for _, err := range []api.Errno{api.OK, api.ErrRange, api.ErrMagic, api.ErrSum, api.ErrForm, api.ErrSpace, api.ErrBusy, api.ErrCorrupt} {
				if seen[err] < 4 {
					t.Errorf("error %d is seen %d times", err, seen[err])
				}
			}
		})
	}
}

// P1: any bytes are looked at, and no look at them panics.
func TestAnyBytes(t *testing.T) {
	r := rand.New(rand.NewSource(5))
	for n := range 3000 {
		b := make([]byte, n)
		r.Read(b)
		checkJust(t, fmt.Sprint("any ", n), string(b))
		clear(b)
		checkJust(t, fmt.Sprint("bytes 0, ", n), string(b))
	}
	for n := range 200 { // all sectors have their sums, but say anything
		var s strings.Builder
		for range n {
			body := make([]byte, r.Intn(sectorSize-sumSize+1))
			r.Read(body)
			s.WriteString(sealed(string(body)))
		}
		checkJust(t, fmt.Sprint("sealed ", n), s.String())
		checkJust(t, fmt.Sprint("parted ", n), superSector(api.Super{Sectors: 18 + n, Origin: 1 + n/2, Chunk: 1})+s.String())
	}
}

// P2: the same bytes tell the same, whatever was looked at between; what is handed in is as it was.
func TestTheSameAgain(t *testing.T) {
	r, first := changer{rand.New(rand.NewSource(8)), crowdSuper()}, map[string]Report{}
	told := map[string]fault{}
	for range 300 {
		s := string(r.change(r.change(crowd())))
		report, sector, err := Bytes(s)
		first[s], told[s] = report, fault{sector, err}
	}
	for s, want := range first {
		report, sector, err := Bytes(s)
		if !sameReports(report, want) || (fault{sector, err}) != told[s] {
			t.Fatalf("%v, sector %d, error %d, and first %v, %v", report, sector, err, want, told[s])
		}
	}
}

// What is pending on a disk is not among its bytes: a report has it once it is flushed.
func TestPendingWrites(t *testing.T) {
	d := disk.Load(string(crowd()))
	d.Write(firstSlot+4, slotSector(free(7)))
	checkReport(t, "pending", d.Bytes(), crowdReport())
	d.Flush()
	want := crowdReport()
	want.Lines = want.Lines[:3]
	checkReport(t, "flushed", d.Bytes(), want)
	e, err := snap.Open(d)
	if err != api.OK {
		t.Fatal(err)
	}
	r, _, _ := Bytes(d.Bytes())
	checkTold(t, "flushed", r, e)
}
