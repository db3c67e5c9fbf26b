package extent

import (
	"math"
	"slices"
	"testing"

	"oakum/api"
)

const diskEnd = 1048576 // 2^20

func extentOf(start, length int) api.Extent { return api.Extent{Start: start, Len: length} }

func list(extents ...api.Extent) []api.Extent { return extents }

// edges are numbers that calls are asked with, whatever their argument means.
func edges() []int {
	return []int{
		math.MinInt, math.MinInt + 1, math.MinInt + 5, math.MinInt32, -diskEnd, -15, -2, -1, 0, 1, 2, 4, 5, 6, 9, 10, 11, 14, 15, 16,
		diskEnd - 1, diskEnd, diskEnd + 1, 2 * diskEnd, math.MaxInt32, 1 << 32, 1<<32 + 5, 1 << 62, math.MaxInt - 10, math.MaxInt - 1, math.MaxInt,
	}
}

// inDisk tells whether a number is one that a region's Start and Len may be.
func inDisk(n int) bool { return n >= 0 && n <= diskEnd }

// plan is how often each sector of a region is used, counted one by one; false, if the extents may not be used in it.
func plan(region api.Extent, used []api.Extent) ([]int, bool) {
	if !inDisk(region.Start) || !inDisk(region.Len) {
		return nil, false
	}
	times := make([]int, region.Len)
	for _, x := range used {
		if x.Len < 1 || x.Len > region.Len {
			return nil, false
		}
		for i := range x.Len {
			sector := uint64(x.Start) + uint64(i) - uint64(region.Start) // one that is ahead of the region wraps round
			if sector >= uint64(region.Len) {
				return nil, false
			}
			times[sector]++
		}
	}
	return times, !slices.ContainsFunc(times, func(n int) bool { return n > 1 })
}

// answers is what all calls answer but Fit.
type answers struct {
	right bool
	gaps  []api.Extent
	err   api.Errno
	free  int
}

// expected is that by the chapter's words.
func expected(region api.Extent, used []api.Extent) answers {
	times, ok := plan(region, used)
	if !ok {
		return answers{err: api.ErrArg}
	}
	want := answers{right: true}
	for i, n := range times {
		if n > 0 {
			continue
		}
		want.free++
		if i > 0 && times[i-1] == 0 {
			want.gaps[len(want.gaps)-1].Len++
		} else {
			want.gaps = append(want.gaps, extentOf(region.Start+i, 1))
		}
	}
	return want
}

// fitOf is what Fit answers by the chapter's words, once the gaps are known.
func fitOf(want answers, n int) (api.Extent, api.Errno) {
	if !want.right || n < 1 {
		return api.Extent{}, api.ErrArg
	}
	for _, gap := range want.gaps {
		if gap.Len >= n {
			return extentOf(gap.Start, n), api.OK
		}
	}
	return api.Extent{}, api.ErrSpace
}

func checkFit(t *testing.T, region api.Extent, n int, used []api.Extent, want api.Extent, wantErr api.Errno) {
	t.Helper()
	if got, err := Fit(region, n, used...); got != want || err != wantErr {
		t.Errorf("Fit(%v, %d, %v) = %v, %d, want %v, %d", region, n, used, got, err, want, wantErr)
	}
}

func checkGaps(t *testing.T, region api.Extent, used, want []api.Extent) {
	t.Helper()
	if got, err := Gaps(region, used...); !slices.Equal(got, want) || err != api.OK {
		t.Errorf("Gaps(%v, %v) = %v, %d, want %v", region, used, got, err, want)
	}
}

// checkAgainst holds all four calls against what they must answer.
func checkAgainst(t *testing.T, region api.Extent, used []api.Extent, want answers, sizes []int) {
	t.Helper()
	if got := Right(region, used...); got != want.right {
		t.Errorf("Right(%v, %v) = %t", region, used, got)
	}
	if got, err := Gaps(region, used...); !slices.Equal(got, want.gaps) || err != want.err {
		t.Errorf("Gaps(%v, %v) = %v, %d, want %v, %d", region, used, got, err, want.gaps, want.err)
	}
	if got := Free(region, used...); got != want.free {
		t.Errorf("Free(%v, %v) = %d, want %d", region, used, got, want.free)
	}
	for _, n := range sizes {
		x, err := fitOf(want, n)
		checkFit(t, region, n, used, x, err)
	}
}

// checkAll holds all four calls against the sectors, counted one by one.
func checkAll(t *testing.T, region api.Extent, used ...api.Extent) {
	t.Helper()
	checkAgainst(t, region, used, expected(region, used), []int{math.MinInt, -1, 0, 1, 2, 3, 4, 5, 6, 9, 10, 11, diskEnd, diskEnd + 1, math.MaxInt})
}

// checkWrong holds that all four calls refuse, Fit whatever it is asked for.
func checkWrong(t *testing.T, region api.Extent, used ...api.Extent) {
	t.Helper()
	checkAgainst(t, region, used, answers{err: api.ErrArg}, edges())
}

// someUsed are lists that may be used in the ten sectors from 5 on.
func someUsed() [][]api.Extent {
	return [][]api.Extent{
		nil,
		{},
		list(extentOf(5, 10)),
		list(extentOf(5, 1)),
		list(extentOf(14, 1)),
		list(extentOf(9, 1)),
		list(extentOf(12, 2), extentOf(5, 3)),
		list(extentOf(5, 3), extentOf(12, 2)),
		list(extentOf(6, 2), extentOf(8, 2), extentOf(10, 2)), // side by side, rising
		list(extentOf(10, 2), extentOf(8, 2), extentOf(6, 2)), // falling
		list(extentOf(8, 2), extentOf(6, 2), extentOf(10, 2)), // mixed
		list(extentOf(5, 5), extentOf(10, 5)),
		list(extentOf(11, 4), extentOf(5, 5)), // one sector between them
		list(extentOf(6, 1), extentOf(8, 1), extentOf(10, 1), extentOf(12, 1), extentOf(14, 1)),
		list(extentOf(13, 1), extentOf(5, 1), extentOf(9, 1), extentOf(7, 1), extentOf(11, 1)),
		list(extentOf(5, 1), extentOf(6, 1), extentOf(7, 1), extentOf(8, 1), extentOf(9, 1), extentOf(10, 1), extentOf(11, 1), extentOf(12, 1), extentOf(13, 1), extentOf(14, 1)),
	}
}

// wrongUsed are lists that may not: by one extent, by two, or by each of several.
func wrongUsed() [][]api.Extent {
	return [][]api.Extent{
		list(extentOf(9, 0)),
		list(extentOf(9, -1)),
		list(extentOf(9, math.MinInt)),
		list(extentOf(5, 0)),
		list(extentOf(15, 0)),
		list(extentOf(4, 0)),
		list(extentOf(0, 0)),
		list(extentOf(15, -1)),
		list(extentOf(15, -10)),
		list(extentOf(5, 11)),
		list(extentOf(4, 10)),
		list(extentOf(4, 11)),
		list(extentOf(4, 12)),
		list(extentOf(4, 1)),
		list(extentOf(0, 5)),
		list(extentOf(0, 1)),
		list(extentOf(-1, 1)),
		list(extentOf(-5, 10)),
		list(extentOf(14, 2)),
		list(extentOf(15, 1)),
		list(extentOf(16, 1)),
		list(extentOf(6, 10)),
		list(extentOf(7, 2), extentOf(8, 2)), // just one sector in common
		list(extentOf(8, 2), extentOf(7, 2)),
		list(extentOf(6, 6), extentOf(8, 2)), // one within another
		list(extentOf(8, 2), extentOf(6, 6)),
		list(extentOf(6, 6), extentOf(6, 2)), // which begin together
		list(extentOf(6, 2), extentOf(6, 6)),
		list(extentOf(6, 6), extentOf(10, 2)), // which end together
		list(extentOf(7, 2), extentOf(7, 2)),  // the same one twice
		list(extentOf(7, 1), extentOf(7, 1)),
		list(extentOf(5, 10), extentOf(5, 10)),
		list(extentOf(5, 10), extentOf(14, 1)),
		list(extentOf(6, 6), extentOf(7, 1), extentOf(9, 1)),
		list(extentOf(7, 1), extentOf(9, 1), extentOf(6, 6)),
		list(extentOf(5, 3), extentOf(12, 2), extentOf(7, 1)),
		list(extentOf(5, 3), extentOf(12, 2), extentOf(9, 0)),
		list(extentOf(9, 0), extentOf(5, 3)),
		list(extentOf(5, 3), extentOf(15, 1)),
		list(extentOf(4, 1), extentOf(5, 3)),
		list(extentOf(4, 1), extentOf(9, 0), extentOf(7, 2), extentOf(7, 2), extentOf(15, -1)),
	}
}

// P11.1, X1: what is a region.

func TestRegions(t *testing.T) {
	for _, start := range edges() {
		for _, length := range edges() {
			region := extentOf(start, length)
			if !inDisk(start) || !inDisk(length) {
				checkWrong(t, region)
				continue
			}
			want := answers{right: true, free: length}
			if length > 0 {
				want.gaps = list(region)
			}
			checkAgainst(t, region, nil, want, edges())
		}
	}
}

// What may be used in a region may not in what is none, though each extent lies in it.
func TestUsedInWhatIsNoRegion(t *testing.T) {
	for _, region := range []api.Extent{
		extentOf(-1, 20), extentOf(5, diskEnd+1), extentOf(0, math.MaxInt), extentOf(5, math.MaxInt), extentOf(math.MinInt, math.MaxInt), extentOf(-1, diskEnd+1),
		extentOf(diskEnd+1, 0), extentOf(5, -1), extentOf(15, -10), extentOf(-1, 0), extentOf(-1, -1), extentOf(math.MinInt, math.MinInt),
	} {
		checkWrong(t, region)
		for _, used := range someUsed() {
			checkWrong(t, region, used...)
		}
		for _, used := range wrongUsed() {
			checkWrong(t, region, used...)
		}
		checkWrong(t, region, region)
	}
	checkWrong(t, extentOf(diskEnd+1, 10), extentOf(diskEnd+3, 2))
}

// In a region of no sector none may be used; it has no gap.
func TestRegionOfNoSector(t *testing.T) {
	for _, start := range []int{0, 1, 5, diskEnd - 1, diskEnd} {
		region := extentOf(start, 0)
		checkAll(t, region)
		checkGaps(t, region, nil, nil)
		for _, n := range edges() {
			want := api.ErrSpace
			if n < 1 {
				want = api.ErrArg
			}
			checkFit(t, region, n, nil, api.Extent{}, want)
		}
		for _, x := range []api.Extent{region, extentOf(start, 1), extentOf(start-1, 1), extentOf(start-1, 2), extentOf(start+1, 1), extentOf(start, -1), extentOf(start+1, -1)} {
			checkWrong(t, region, x)
		}
	}
}

// P11.1, X1: which extents may be used, and what is left beside them.

func TestUsed(t *testing.T) {
	region := extentOf(5, 10)
	for _, used := range someUsed() {
		if !Right(region, used...) {
			t.Errorf("Right(%v, %v) = false", region, used)
		}
		checkAll(t, region, used...)
	}
}

func TestUsedThatMayNotBe(t *testing.T) {
	for _, used := range wrongUsed() {
		checkWrong(t, extentOf(5, 10), used...)
		backward := slices.Clone(used)
		slices.Reverse(backward)
		checkWrong(t, extentOf(5, 10), backward...)
	}
}

// Wherever an extent begins and however long it is, and with another one beside it.
func TestOneUsedAtTheEdges(t *testing.T) {
	region := extentOf(5, 10)
	for _, start := range edges() {
		for _, length := range edges() {
			x := extentOf(start, length)
			checkAll(t, region, x)
			checkAll(t, region, x, extentOf(9, 2))
			checkAll(t, region, extentOf(9, 2), x)
		}
	}
}

// Start and Len together are too many for an int, and wrap round into the region.
func TestGreatNumbers(t *testing.T) {
	for _, region := range []api.Extent{extentOf(5, 10), extentOf(0, 10), extentOf(0, diskEnd), extentOf(diskEnd, diskEnd), extentOf(diskEnd, 1)} {
		for _, c := range [][2]int{
			{region.Start, math.MaxInt}, {region.Start, math.MaxInt - region.Start}, {region.Start + 1, math.MaxInt - region.Start}, {region.Start, 1 << 62}, {region.Start, 1 << 32}, {region.Start, 1<<32 + 1},
			{math.MaxInt, 1}, {math.MaxInt, 2}, {math.MaxInt, math.MaxInt}, {math.MaxInt - 1, 1}, {math.MaxInt - 1, 2}, {1 << 62, 1 << 62}, {1<<62 + 6, 1 << 62}, {1<<32 + region.Start, 1},
			{math.MinInt, 1}, {math.MinInt, math.MaxInt}, {math.MinInt + region.Start, math.MaxInt}, {math.MinInt + region.Start + 1, math.MaxInt}, {math.MinInt, math.MinInt}, {math.MinInt, -1},
			{-1, math.MaxInt}, {-2, math.MaxInt}, {region.Start, math.MinInt}, {region.Start, -math.MaxInt}, {math.MaxInt, math.MinInt}, {math.MaxInt, region.Start + 2 - math.MaxInt}, {region.Start, region.Len + 1},
		} {
			checkWrong(t, region, extentOf(c[0], c[1]))
			checkWrong(t, region, extentOf(region.Start, 1), extentOf(c[0], c[1]))
			checkWrong(t, region, extentOf(c[0], c[1]), extentOf(region.Start, 1))
		}
	}
}

// All lists of up to three extents, in and about some small regions.
func TestAllSmallLists(t *testing.T) {
	for _, region := range []api.Extent{extentOf(0, 3), extentOf(2, 4), extentOf(diskEnd, 2)} {
		var some []api.Extent
		for start := region.Start - 1; start <= region.Start+region.Len+1; start++ {
			for length := -1; length <= region.Len+1; length++ {
				some = append(some, extentOf(start, length))
			}
		}
		sizes := []int{-1, 0, 1, 2, 3, 4, 5}
		for _, a := range some {
			checkAgainst(t, region, list(a), expected(region, list(a)), sizes)
			for _, b := range some {
				checkAgainst(t, region, list(a, b), expected(region, list(a, b)), sizes)
				for _, c := range some {
					checkAgainst(t, region, list(a, b, c), expected(region, list(a, b, c)), sizes)
				}
			}
		}
	}
}

// P11.1, X1: gaps ahead of all, between, behind all, and none.

func TestGaps(t *testing.T) {
	region := extentOf(5, 10)
	for _, c := range []struct{ used, want []api.Extent }{
		{nil, list(region)},
		{list(extentOf(5, 10)), nil},
		{list(extentOf(10, 5), extentOf(5, 5)), nil},
		{list(extentOf(5, 9)), list(extentOf(14, 1))},
		{list(extentOf(6, 9)), list(extentOf(5, 1))},
		{list(extentOf(7, 3)), list(extentOf(5, 2), extentOf(10, 5))},
		{list(extentOf(11, 4), extentOf(5, 5)), list(extentOf(10, 1))},
		{list(extentOf(12, 2), extentOf(5, 3)), list(extentOf(8, 4), extentOf(14, 1))},
		{list(extentOf(12, 1), extentOf(8, 1), extentOf(6, 1)), list(extentOf(5, 1), extentOf(7, 1), extentOf(9, 3), extentOf(13, 2))},
		{list(extentOf(8, 2), extentOf(10, 2), extentOf(6, 2)), list(extentOf(5, 1), extentOf(12, 3))},
	} {
		checkGaps(t, region, c.used, c.want)
	}
}

// The gap at the end of the farthest region stands behind MaxDisk, up to twice as far.
func TestFarthestRegion(t *testing.T) {
	region := extentOf(diskEnd, diskEnd)
	used := list(extentOf(2*diskEnd-2, 1), extentOf(diskEnd+1, 1))
	checkGaps(t, region, used, list(extentOf(diskEnd, 1), extentOf(diskEnd+2, diskEnd-4), extentOf(2*diskEnd-1, 1)))
	checkFit(t, region, diskEnd-4, used, extentOf(diskEnd+2, diskEnd-4), api.OK)
	checkFit(t, region, diskEnd-3, used, api.Extent{}, api.ErrSpace)
	checkWrong(t, region, extentOf(2*diskEnd, 1))
	checkWrong(t, region, extentOf(diskEnd-1, 1))
	checkAgainst(t, region, list(region), answers{right: true}, []int{0})
}

// P11.1, X1: Fit.

func TestFit(t *testing.T) {
	region := extentOf(0, 30)
	used := list(extentOf(20, 4), extentOf(3, 2), extentOf(10, 1)) // gaps of 3, 5, 9 and 6 sectors
	for _, c := range []struct {
		n, start int
	}{
		{1, 0}, {2, 0}, {3, 0}, // just the first gap's
		{4, 5}, {5, 5}, // one more
		{6, 11}, {7, 11}, {8, 11}, // not the gap of six sectors, which comes later
		{9, 11}, // just the greatest gap's
	} {
		checkFit(t, region, c.n, used, extentOf(c.start, c.n), api.OK)
	}
	for _, n := range []int{10, 11, 16, 23, 30, 31, diskEnd, diskEnd + 1, 1 << 32, 1<<32 + 1, math.MaxInt - 1, math.MaxInt} {
		checkFit(t, region, n, used, api.Extent{}, api.ErrSpace)
	}
	for _, n := range []int{0, -1, -2, -30, math.MinInt32, math.MinInt + 1, math.MinInt} {
		checkFit(t, region, n, used, api.Extent{}, api.ErrArg)
	}
}

// The first of several gaps that have room, though a later one would be just as great as what is asked for.
func TestFitTakesTheFirstGap(t *testing.T) {
	region := extentOf(5, 20)
	used := list(extentOf(17, 1), extentOf(11, 1), extentOf(14, 1)) // gaps of 6, 2, 2 and 7 sectors
	checkFit(t, region, 2, used, extentOf(5, 2), api.OK)
	checkFit(t, region, 6, used, extentOf(5, 6), api.OK)
	checkFit(t, region, 7, used, extentOf(18, 7), api.OK)
	checkFit(t, region, 8, used, api.Extent{}, api.ErrSpace)
}

// Of several things that are wrong, ErrArg is told.
func TestFitOfSeveralThatAreWrong(t *testing.T) {
	full := list(extentOf(5, 10))
	for _, n := range []int{math.MinInt, -1, 0} {
		checkFit(t, extentOf(5, 10), n, full, api.Extent{}, api.ErrArg)
		checkFit(t, extentOf(5, 0), n, nil, api.Extent{}, api.ErrArg)
		checkFit(t, extentOf(-1, 0), n, full, api.Extent{}, api.ErrArg)
		checkFit(t, extentOf(5, 10), n, list(extentOf(5, 10), extentOf(5, 10)), api.Extent{}, api.ErrArg)
	}
	for _, n := range []int{1, 11, math.MaxInt} {
		checkFit(t, extentOf(5, 10), n, full, api.Extent{}, api.ErrSpace)
		checkFit(t, extentOf(5, -1), n, nil, api.Extent{}, api.ErrArg)
		checkFit(t, extentOf(5, 10), n, list(extentOf(5, 10), extentOf(9, 1)), api.Extent{}, api.ErrArg)
		checkFit(t, extentOf(5, 10), n, list(extentOf(5, 10), extentOf(15, 1)), api.Extent{}, api.ErrArg)
	}
}

// P11.2: what fits may be used, too, and is no more free.

func checkWhatFits(t *testing.T, region api.Extent, used []api.Extent) {
	t.Helper()
	free := Free(region, used...)
	for n := 1; n <= region.Len+1; n++ {
		x, err := Fit(region, n, used...)
		if err != api.OK {
			continue
		}
		for at := range len(used) + 1 {
			with := slices.Insert(slices.Clone(used), at, x)
			if !Right(region, with...) {
				t.Errorf("in %v what fits, %v, may not be used beside %v", region, x, used)
			}
			if got := Free(region, with...); got != free-n {
				t.Errorf("Free(%v, %v) = %d, want %d", region, with, got, free-n)
			}
		}
	}
}

// Gaps, and what is used, are the region: all may be used together, and leave nothing free.
func checkWhole(t *testing.T, region api.Extent, used []api.Extent) {
	t.Helper()
	gaps, err := Gaps(region, used...)
	if err != api.OK {
		t.Errorf("Gaps(%v, %v): %d", region, used, err)
	}
	all := append(slices.Clone(used), gaps...)
	if !Right(region, all...) || Free(region, all...) != 0 {
		t.Errorf("in %v the gaps, %v, and what is used, %v, are not the region", region, gaps, used)
	}
	checkGaps(t, region, all, nil)
	checkFit(t, region, 1, all, api.Extent{}, api.ErrSpace)
	var sorted []api.Extent
	for _, x := range used {
		at, _ := slices.BinarySearchFunc(sorted, x, func(a, b api.Extent) int { return a.Start - b.Start })
		sorted = slices.Insert(sorted, at, x)
	}
	checkRising(t, region, gaps, sorted)
	checkGapsOfGaps(t, region, gaps, sorted)
}

// checkRising holds that gaps rise, and that no two of them stand side by side: each goes as long as it goes.
func checkRising(t *testing.T, region api.Extent, gaps, used []api.Extent) {
	t.Helper()
	for i, gap := range gaps {
		if gap.Len < 1 || i > 0 && gap.Start <= gaps[i-1].Start+gaps[i-1].Len {
			t.Errorf("in %v, beside %v, the gaps %v do not rise", region, used, gaps)
		}
	}
}

// checkGapsOfGaps holds that beside the gaps just what is used is left, where what stands side by side is one.
func checkGapsOfGaps(t *testing.T, region api.Extent, gaps, sorted []api.Extent) {
	t.Helper()
	var want []api.Extent
	for _, x := range sorted {
		if last := len(want) - 1; last >= 0 && want[last].Start+want[last].Len == x.Start {
			want[last].Len += x.Len
		} else {
			want = append(want, x)
		}
	}
	checkGaps(t, region, gaps, want)
}

func TestWhatFits(t *testing.T) {
	for _, used := range someUsed() {
		checkWhatFits(t, extentOf(5, 10), used)
	}
	for length := range 5 {
		checkWhatFits(t, extentOf(diskEnd, length), nil)
		checkWhatFits(t, extentOf(0, length), nil)
	}
}

func TestWhole(t *testing.T) {
	for _, used := range someUsed() {
		checkWhole(t, extentOf(5, 10), used)
	}
	for _, start := range []int{0, 1, diskEnd} {
		for _, length := range []int{0, 1, 2, diskEnd} {
			checkWhole(t, extentOf(start, length), nil)
		}
	}
}

// Each way to part nine sectors among extents and gaps.
func TestAllPartings(t *testing.T) {
	region := extentOf(3, 9)
	for marks := range 1 << 18 {
		var used []api.Extent
		open := false
		right := true
		for i := range region.Len {
			switch marks >> (2 * i) & 3 {
			case 0:
				open = false
			case 1:
				used, open = append(used, extentOf(region.Start+i, 1)), true
			case 2:
				if right = right && open; right {
					used[len(used)-1].Len++
				}
			case 3:
				right = false
			}
		}
		if !right {
			continue
		}
		checkWhole(t, region, used)
		checkWhatFits(t, region, used)
	}
}

// Stores that are made and given back, in no order: as the volume does it, till there is no room, and again.
func TestStoresComeAndGo(t *testing.T) {
	region := extentOf(37, 63)
	var used []api.Extent
	for i := range 2000 {
		n := (i*i*7+i*13)%19 + 1
		x, err := Fit(region, n, used...)
		if want, wantErr := fitOf(expected(region, used), n); x != want || err != wantErr {
			t.Fatalf("Fit(%v, %d, %v) = %v, %d, want %v, %d", region, n, used, x, err, want, wantErr)
		}
		if err == api.OK {
			used = append(used, x)
			checkWhole(t, region, used)
		} else {
			at := (i * 5) % len(used)
			used = slices.Delete(used, at, at+1)
		}
		checkAll(t, region, used...)
	}
}

// What is told hangs on no order of the extents.

// permutations goes through all orders of a list.
func permutations(extents []api.Extent, k int, visit func([]api.Extent)) {
	if k == len(extents) {
		visit(slices.Clone(extents))
		return
	}
	for i := k; i < len(extents); i++ {
		extents[k], extents[i] = extents[i], extents[k]
		permutations(extents, k+1, visit)
		extents[k], extents[i] = extents[i], extents[k]
	}
}

func TestAnyOrder(t *testing.T) {
	region := extentOf(0, 20)
	for _, used := range [][]api.Extent{
		list(extentOf(0, 2), extentOf(2, 1), extentOf(5, 4), extentOf(10, 1), extentOf(12, 3), extentOf(19, 1)),
		list(extentOf(1, 2), extentOf(4, 1), extentOf(5, 4), extentOf(9, 1), extentOf(13, 3), extentOf(16, 2)),
		list(extentOf(0, 2), extentOf(2, 1), extentOf(5, 4), extentOf(8, 1), extentOf(12, 3), extentOf(19, 1)),
		list(extentOf(0, 2), extentOf(2, 9), extentOf(5, 4), extentOf(6, 1), extentOf(12, 3), extentOf(19, 1)),
		list(extentOf(0, 2), extentOf(2, 1), extentOf(5, 4), extentOf(10, 1), extentOf(12, 3), extentOf(19, 2)),
		list(extentOf(0, 2), extentOf(2, 1), extentOf(5, 0), extentOf(10, 1), extentOf(12, 3), extentOf(19, 1)),
	} {
		want := expected(region, used)
		permutations(used, 0, func(mixed []api.Extent) {
			checkAgainst(t, region, mixed, want, []int{-1, 0, 1, 2, 3, 4, 5, 6, 20, 21})
		})
	}
}

// P1: no call ends in a panic, and each ends, however great the region is, and however many are used in it.
func TestGreatestRegion(t *testing.T) {
	region := extentOf(0, diskEnd)
	var used, want []api.Extent
	for start := diskEnd - 1; start > 0; start -= 2 {
		used = append(used, extentOf(start, 1)) // each second sector, falling
	}
	for start := 0; start < diskEnd; start += 2 {
		want = append(want, extentOf(start, 1))
	}
	checkGaps(t, region, used, want)
	if !Right(region, used...) || Free(region, used...) != diskEnd/2 {
		t.Errorf("Free = %d of %d", Free(region, used...), diskEnd)
	}
	checkFit(t, region, 1, used, extentOf(0, 1), api.OK)
	checkFit(t, region, 2, used, api.Extent{}, api.ErrSpace)
	checkFit(t, region, 2, used[1:], extentOf(diskEnd-2, 2), api.OK)
	all := append(want, used...)
	if !Right(region, all...) || Free(region, all...) != 0 {
		t.Errorf("Free = %d, want 0", Free(region, all...))
	}
	if all = append(all, extentOf(diskEnd/2, 1)); Right(region, all...) || Free(region, all...) != 0 {
		t.Error("one sector is used twice")
	}
}

// P2: the same again, and the extents that were handed in stand as they were, also behind the list's length.
func TestTheSameAgain(t *testing.T) {
	region := extentOf(5, 10)
	for _, used := range append(someUsed(), wrongUsed()...) {
		memory := append(slices.Clone(used), extentOf(5, 1), extentOf(6, 9), extentOf(-1, -1))
		before := slices.Clone(memory)
		handed := memory[:len(used)]
		want := expected(region, used)
		for range 3 {
			checkAgainst(t, region, handed, want, []int{-1, 0, 1, 2, 5, 10, 11})
			if !slices.Equal(memory, before) {
				t.Fatalf("%v was written into: now %v", before, memory)
			}
		}
	}
}

// What is answered is new memory: to write into it changes nothing else.
func TestGapsAreNewMemory(t *testing.T) {
	region := extentOf(5, 10)
	used := list(extentOf(12, 2), extentOf(5, 3))
	want := list(extentOf(8, 4), extentOf(14, 1))
	first, _ := Gaps(region, used...)
	second, _ := Gaps(region, used...)
	for i := range first[:cap(first)] {
		first[:cap(first)][i] = extentOf(-7, -7)
	}
	if !slices.Equal(second, want) || !slices.Equal(used, list(extentOf(12, 2), extentOf(5, 3))) {
		t.Errorf("behind a write into an answer: another one %v, what was handed in %v", second, used)
	}
	checkGaps(t, region, used, want)
	none, _ := Gaps(region)
	none[0] = extentOf(-7, -7)
	checkGaps(t, region, nil, list(region))
	// To write into what was handed in changes no answer, either.
	kept, _ := Gaps(region, used...)
	used[0], used[1] = extentOf(9, 9), extentOf(9, 9)
	if !slices.Equal(kept, want) {
		t.Errorf("an answer became %v", kept)
	}
}
