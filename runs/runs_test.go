package runs

import (
	"math"
	"slices"
	"testing"

	"oakum/api"
)

func entry(chunk, index int) api.Entry { return api.Entry{Origin: chunk, Index: index} }

func list(entries ...api.Entry) []api.Entry { return entries }

// indices are numbers that may stand beside a chunk: any may.
func indices() []int {
	return []int{7, 0, math.MaxInt, -1, 7, math.MinInt, 1 << 32, 3, math.MaxInt}
}

// entriesOf are exceptions of these chunks, in this order, with indices that are in no order.
func entriesOf(chunks ...int) []api.Entry {
	some := indices()
	var l []api.Entry
	for i, chunk := range chunks {
		l = append(l, entry(chunk, some[i%len(some)]))
	}
	return l
}

// risingFrom are n chunks side by side.
func risingFrom(first, n int) []int {
	chunks := make([]int, n)
	for i := range chunks {
		chunks[i] = first + i
	}
	return chunks
}

func copyOf(all [][]api.Entry) [][]api.Entry {
	var other [][]api.Entry
	for _, run := range all {
		other = append(other, slices.Clone(run))
	}
	return other
}

func equal(a, b [][]api.Entry) bool { return slices.EqualFunc(a, b, slices.Equal[[]api.Entry]) }

// inOrderByWords tells whether each exception's chunk is 0 at least, and greater than all those ahead of it.
func inOrderByWords(l []api.Entry) bool {
	for i, x := range l {
		if x.Origin < 0 {
			return false
		}
		for _, y := range l[:i] {
			if y.Origin >= x.Origin {
				return false
			}
		}
	}
	return true
}

// expected is what Of answers by the chapter's words: chunks that go on have the same distance from their places in the
// list, and are parted where so many of them are full.
func expected(most int, l []api.Entry) ([][]api.Entry, api.Errno) {
	if most < 1 || !inOrderByWords(l) {
		return nil, api.ErrArg
	}
	var all [][]api.Entry
	begin := 0 // of those that go on
	for i, x := range l {
		if x.Origin-i != l[begin].Origin-begin {
			begin = i
		}
		if (i-begin)%most == 0 {
			all = append(all, nil)
		}
		all[len(all)-1] = append(all[len(all)-1], x)
	}
	return all, api.OK
}

func firstOf(all [][]api.Entry) []api.Entry {
	if len(all) == 0 {
		return nil
	}
	return all[0]
}

// check holds both calls against the chapter's words.
func check(t *testing.T, most int, l []api.Entry) {
	t.Helper()
	want, wantErr := expected(most, l)
	checkTold(t, most, l, want, wantErr)
	if wantErr == api.OK {
		checkWhole(t, most, l)
	}
}

// checkTold holds both calls against what they must answer.
func checkTold(t *testing.T, most int, l []api.Entry, want [][]api.Entry, wantErr api.Errno) {
	t.Helper()
	if got, err := Of(most, l...); !equal(got, want) || err != wantErr {
		t.Errorf("Of(%d, %v) = %v, %d, want %v, %d", most, l, got, err, want, wantErr)
	}
	if got, err := First(most, l...); !slices.Equal(got, firstOf(want)) || err != wantErr {
		t.Errorf("First(%d, %v) = %v, %d, want %v, %d", most, l, got, err, firstOf(want), wantErr)
	}
}

// checkWhole holds that all runs are the exceptions, that each is one, and that none can be longer.
func checkWhole(t *testing.T, most int, l []api.Entry) {
	t.Helper()
	all, err := Of(most, l...)
	if err != api.OK {
		t.Errorf("Of(%d, %v): %d", most, l, err)
		return
	}
	if !slices.Equal(slices.Concat(all...), l) {
		t.Errorf("Of(%d, %v) = %v: these are not the exceptions", most, l, all)
	}
	for i, run := range all {
		if len(run) < 1 || len(run) > most {
			t.Errorf("Of(%d, %v) = %v: run %d has %d", most, l, all, i, len(run))
			continue
		}
		for j := 1; j < len(run); j++ {
			if run[j-1].Origin == math.MaxInt || run[j].Origin != run[j-1].Origin+1 {
				t.Errorf("Of(%d, %v) = %v: run %d does not go on at %d", most, l, all, i, j)
			}
		}
		last := run[len(run)-1].Origin
		if i+1 < len(all) && len(run) < most && last != math.MaxInt && len(all[i+1]) > 0 && all[i+1][0].Origin == last+1 {
			t.Errorf("Of(%d, %v) = %v: run %d can be longer", most, l, all, i)
		}
	}
}

// checkWrong holds that both calls refuse, and tell nothing beside it.
func checkWrong(t *testing.T, most int, l []api.Entry) {
	t.Helper()
	checkTold(t, most, l, nil, api.ErrArg)
}

// mosts are how many a run of so many exceptions may have at most, and all about it.
func mosts(n int) []int {
	l := []int{1, 2, 3, api.MaxRun, 1 << 31, 1 << 32, math.MaxInt - 1, math.MaxInt}
	for most := max(n-2, 1); most <= n+2; most++ {
		l = append(l, most)
	}
	return l
}

// wrongMosts are below 1. Among them are numbers that would do, if only their lowest bits were looked at.
func wrongMosts() []int {
	return []int{0, -1, -2, -3, -8, math.MinInt32, -1 << 32, -1<<32 + 3, -1 << 62, math.MinInt + 8, math.MinInt + 1, math.MinInt}
}

// someChunks are in order.
func someChunks() [][]int {
	return [][]int{
		{},
		{0},
		{1},
		{5},
		{math.MaxInt},
		{math.MaxInt - 1},
		{0, 1},
		{0, 2},
		{0, math.MaxInt},
		{math.MaxInt - 1, math.MaxInt},
		{math.MaxInt - 2, math.MaxInt},
		{0, 1, 2, 3, 4, 5, 6, 7, 8},           // on from first to last
		{3, 4, 5, 6, 7, 8, 9, 10, 11, 12, 13}, // likewise
		{0, 2, 4, 6, 8, 10},                   // on nowhere
		{1, 3, 6, 10, 15, 21},
		{0, 2, 3, 4, 5, 6},      // a gap at the beginning
		{0, 1, 2, 4, 5, 6},      // in the middle
		{0, 1, 2, 3, 4, 6},      // at the end
		{0, 1, 2, 50, 51, 1000}, // great ones
		{0, 1, 2, 3, 6, 8, 9},
		{2, 4, 5, 7, 8, 9, 11, 12, 13, 14},
		{math.MaxInt - 8, math.MaxInt - 7, math.MaxInt - 6, math.MaxInt - 4, math.MaxInt - 3, math.MaxInt - 2, math.MaxInt - 1, math.MaxInt},
		{0, 1, math.MaxInt - 1, math.MaxInt},
		{1<<31 - 2, 1<<31 - 1, 1 << 31, 1<<31 + 1, 1<<32 - 1, 1 << 32, 1<<32 + 1, 1 << 62},
		{5, 5 + 1<<32, 6 + 1<<32, 7 + 1<<33}, // whose lowest bits go on
		{5, 6 + 1<<8, 7 + 1<<16, 8 + 1<<32, 9 + 1<<62},
	}
}

// wrongChunks are not in order: by one, by two, or by each of several.
func wrongChunks() [][]int {
	return [][]int{
		{-1},
		{-2},
		{math.MinInt},
		{math.MinInt + 1},
		{-1 << 32},
		{-1, 0},
		{-1, 0, 1, 2},
		{-3, -2, -1},
		{-2, 4, 5},
		{math.MinInt, math.MaxInt},
		{math.MinInt, 0, 1},
		{0, -1},
		{0, 1, -1},
		{0, 1, -1, 2},
		{0, 1, 2, -1},
		{4, -5},
		{0, math.MinInt},
		{math.MaxInt, math.MinInt}, // one more than the greatest int can tell
		{math.MaxInt - 1, math.MaxInt, math.MinInt},
		{math.MaxInt, math.MinInt, math.MinInt + 1},
		{0, math.MaxInt, math.MinInt},
		{0, 0},
		{5, 5},
		{math.MaxInt, math.MaxInt},
		{math.MaxInt - 1, math.MaxInt, math.MaxInt},
		{0, 0, 1},
		{0, 1, 1},
		{0, 1, 1, 2},
		{0, 1, 2, 2},
		{0, 1, 0}, // two alike, one between them
		{3, 4, 5, 3},
		{3, 4, 5, 4},
		{1, 0},
		{1, 0, 2, 3}, // two that fall, at the beginning
		{0, 1, 3, 2}, // at the end
		{0, 2, 1, 3}, // between
		{5, 4, 3, 2},
		{10, 11, 12, 4, 5, 6},
		{math.MaxInt, 0},
		{math.MaxInt, 1},
		{math.MaxInt, math.MaxInt - 1},
		{1 << 32, 1},
		{6 + 1<<32, 5},
		{-1, 5, 5, 3},
		{5, 5, 4, -1},
		{-1, -1},
		{-1, -2},
	}
}

// P13.1, R1: Of and First.

func TestRunsAsTheChapterSays(t *testing.T) {
	a, b, c, d, e, f, g := entry(0, 4), entry(1, 0), entry(2, 9), entry(3, 2), entry(6, 1), entry(8, 3), entry(9, 5)
	l := list(a, b, c, d, e, f, g)
	for _, x := range []struct {
		most int
		want [][]api.Entry
	}{
		{1, [][]api.Entry{{a}, {b}, {c}, {d}, {e}, {f}, {g}}},
		{2, [][]api.Entry{{a, b}, {c, d}, {e}, {f, g}}},
		{3, [][]api.Entry{{a, b, c}, {d}, {e}, {f, g}}},
		{4, [][]api.Entry{{a, b, c, d}, {e}, {f, g}}},
		{5, [][]api.Entry{{a, b, c, d}, {e}, {f, g}}},
		{6, [][]api.Entry{{a, b, c, d}, {e}, {f, g}}},
		{7, [][]api.Entry{{a, b, c, d}, {e}, {f, g}}},
		{8, [][]api.Entry{{a, b, c, d}, {e}, {f, g}}},
		{math.MaxInt, [][]api.Entry{{a, b, c, d}, {e}, {f, g}}},
	} {
		checkTold(t, x.most, l, x.want, api.OK)
	}
	checkTold(t, 8, list(entry(0, 0), entry(2, 1), entry(3, 2)), [][]api.Entry{{entry(0, 0)}, {entry(2, 1), entry(3, 2)}}, api.OK)
}

func TestNoExceptions(t *testing.T) {
	for _, most := range mosts(0) {
		checkTold(t, most, nil, nil, api.OK)
		checkTold(t, most, list(), nil, api.OK)
		checkTold(t, most, list(entry(4, 4), entry(3, 3))[:0], nil, api.OK)
	}
	for _, most := range wrongMosts() {
		checkWrong(t, most, nil)
		checkWrong(t, most, list())
	}
}

func TestOneException(t *testing.T) {
	for _, chunk := range []int{0, 1, 2, 1<<31 - 2, 1<<31 - 1, 1 << 32, math.MaxInt - 1, math.MaxInt} {
		for _, index := range indices() {
			l := list(entry(chunk, index))
			for _, most := range mosts(1) {
				checkTold(t, most, l, [][]api.Entry{l}, api.OK)
			}
			for _, most := range wrongMosts() {
				checkWrong(t, most, l)
			}
		}
	}
}

func TestSomeExceptions(t *testing.T) {
	for _, chunks := range someChunks() {
		l := entriesOf(chunks...)
		for _, most := range mosts(len(l)) {
			if _, err := Of(most, l...); err != api.OK {
				t.Errorf("Of(%d, %v): %d", most, l, err)
			}
			check(t, most, l)
		}
	}
}

// Chunks that go on, as many as a run may have, or fewer, or more, and behind a gap others, likewise.
func TestRunsJustAsLongAsTheyMayBe(t *testing.T) {
	for most := 1; most <= 9; most++ {
		for n := 1; n <= 3*most+1; n++ {
			for behind := range 2*most + 2 {
				chunks := append(risingFrom(4, n), risingFrom(4+n+1, behind)...)
				l := entriesOf(chunks...)
				var want [][]api.Entry
				for _, side := range [][]api.Entry{l[:n], l[n:]} {
					for len(side) > 0 {
						size := min(most, len(side))
						want = append(want, side[:size])
						side = side[size:]
					}
				}
				checkTold(t, most, l, want, api.OK)
				check(t, most, l)
			}
		}
	}
}

// The first run goes on as long as chunks do, not to the end of what stands behind.
func TestFirst(t *testing.T) {
	for n := 1; n <= 12; n++ {
		l := entriesOf(append(risingFrom(0, n), n+1, n+2, n+3)...)
		for _, most := range mosts(n) {
			want := l[:min(most, n)]
			if got, err := First(most, l...); !slices.Equal(got, want) || err != api.OK {
				t.Errorf("First(%d, %v) = %v, %d, want %v", most, l, got, err, want)
			}
		}
	}
}

// Each way in which exceptions can be of ten chunks side by side, at the least chunks and at the greatest ones.
func TestAllInOrder(t *testing.T) {
	for _, base := range []int{0, 1, math.MaxInt - 9} {
		for mask := range 1 << 10 {
			var chunks []int
			for i := range 10 {
				if mask>>i&1 == 1 {
					chunks = append(chunks, base+i)
				}
			}
			l := entriesOf(chunks...)
			for most := -1; most <= 12; most++ {
				check(t, most, l)
			}
			check(t, math.MaxInt, l)
			check(t, math.MinInt, l)
		}
	}
}

// P13.1, R1: what is wrong.

func TestMostBelowOne(t *testing.T) {
	for _, most := range wrongMosts() {
		for _, chunks := range append(someChunks(), wrongChunks()...) {
			checkWrong(t, most, entriesOf(chunks...))
		}
	}
}

func TestNotInOrder(t *testing.T) {
	for _, chunks := range wrongChunks() {
		l := entriesOf(chunks...)
		for _, most := range mosts(len(l)) {
			checkWrong(t, most, l)
		}
	}
}

// What is wrong is told wherever it stands, also far behind the first run.
func TestOneWrongAnywhere(t *testing.T) {
	for _, step := range []int{1, 2} {
		var chunks []int
		for i := range 20 {
			chunks = append(chunks, step*i)
		}
		for at := range chunks {
			wrong := []int{-1, math.MinInt}
			if at > 0 {
				wrong = append(wrong, chunks[at-1], chunks[at-1]-1, 0)
			}
			for _, chunk := range wrong {
				other := slices.Clone(chunks)
				other[at] = chunk
				for _, most := range mosts(20) {
					checkWrong(t, most, entriesOf(other...))
				}
			}
			if at+1 < len(chunks) {
				other := slices.Clone(chunks)
				other[at] = math.MaxInt
				checkWrong(t, 3, entriesOf(other...))
			}
		}
	}
}

// All lists of up to five exceptions of some chunks, in order or not.
func TestAllSmallLists(t *testing.T) {
	for _, base := range []int{0, math.MaxInt - 4} {
		some := append(risingFrom(base, 5), -1, math.MinInt)
		var visit func(chunks []int)
		visit = func(chunks []int) {
			l := entriesOf(chunks...)
			for _, most := range []int{-1, 0, 1, 2, 3, 4, 5, 6, math.MaxInt} {
				check(t, most, l)
			}
			if len(chunks) == 5 {
				return
			}
			for _, chunk := range some {
				visit(append(slices.Clone(chunks), chunk))
			}
		}
		visit(nil)
	}
}

// What an exception's index is changes no run, and it is told as it came in.
func TestAnyIndices(t *testing.T) {
	for _, chunks := range append(someChunks(), wrongChunks()...) {
		for shift := range indices() {
			some := indices()
			l := entriesOf(chunks...)
			for i := range l {
				l[i].Index = some[(i*shift+shift)%len(some)]
			}
			for _, most := range mosts(3) {
				check(t, most, l)
			}
		}
	}
}

// P13.2: all runs, one behind the other, are the exceptions; none can be longer.

// Long lists, of chunks that go on now and then.
func TestWhole(t *testing.T) {
	seed := uint32(13)
	for n := range 300 {
		var chunks []int
		next := n % 3
		for range n {
			chunks = append(chunks, next)
			seed = seed*1664525 + 1013904223
			next++
			if seed>>16%uint32(n%20+2) == 0 {
				next += int(seed >> 28)
			}
		}
		l := entriesOf(chunks...)
		for _, most := range mosts(n / 2) {
			check(t, most, l)
		}
	}
}

// The first run, and all that come of what is left behind it, are all runs.
func TestFirstAgainAndAgain(t *testing.T) {
	for _, chunks := range someChunks() {
		l := entriesOf(chunks...)
		for _, most := range mosts(4) {
			var all [][]api.Entry
			for rest := l; len(rest) > 0; {
				run, err := First(most, rest...)
				if err != api.OK || len(run) == 0 {
					t.Fatalf("First(%d, %v) = %v, %d", most, rest, run, err)
				}
				all = append(all, run)
				rest = rest[len(run):]
			}
			checkTold(t, most, l, all, api.OK)
		}
	}
}

// P1: no call ends in a panic, and each ends, however many exceptions there are, and however few of them a run may have.
func TestManyExceptions(t *testing.T) {
	for _, step := range []int{1, 2} {
		l := make([]api.Entry, api.MaxDisk)
		for i := range l {
			l[i] = entry(step*i, -i)
		}
		for _, most := range []int{1, 2, api.MaxRun, api.MaxDisk - 1, api.MaxDisk, math.MaxInt} {
			size := most
			if step == 2 {
				size = 1
			}
			size = min(size, len(l))
			all, err := Of(most, l...)
			if err != api.OK || len(all) != (len(l)+size-1)/size || !slices.Equal(slices.Concat(all...), l) {
				t.Errorf("Of(%d) of %d: %d runs, %d", most, len(l), len(all), err)
			}
			if first, err := First(most, l...); err != api.OK || !slices.Equal(first, l[:size]) {
				t.Errorf("First(%d) of %d: %d of them, %d", most, len(l), len(first), err)
			}
		}
		l[len(l)-1].Origin = l[len(l)-2].Origin
		checkNothing(t, l)
	}
}

// checkNothing is checkWrong of exceptions that are too many to be told.
func checkNothing(t *testing.T, l []api.Entry) {
	t.Helper()
	if all, err := Of(8, l...); len(all) != 0 || err != api.ErrArg {
		t.Errorf("Of: %d runs, %d", len(all), err)
	}
	if first, err := First(8, l...); len(first) != 0 || err != api.ErrArg {
		t.Errorf("First: %d of them, %d", len(first), err)
	}
}

// P2: the same again, whatever was asked between, and the exceptions that were handed in stand as they were, also behind
// the list's length, where other exceptions stand that would go on.
func TestTheSameAgain(t *testing.T) {
	for _, chunks := range append(someChunks(), wrongChunks()...) {
		l := entriesOf(chunks...)
		next := 0
		if len(chunks) > 0 {
			next = chunks[len(chunks)-1] + 1
		}
		for _, behind := range [][]int{{next, next + 1}, {-5, -5}} {
			memory := append(slices.Clone(l), entriesOf(behind...)...)
			before := slices.Clone(memory)
			handed := memory[:len(l)]
			for _, most := range []int{3, 0, 1, -1, math.MaxInt, 3, 1} {
				want, wantErr := expected(most, l)
				checkTold(t, most, handed, want, wantErr)
				if !slices.Equal(memory, before) {
					t.Fatalf("%v was written into: now %v", before, memory)
				}
			}
		}
	}
}

// scribble writes into all of a run's memory.
func scribble(run []api.Entry) {
	run = run[:cap(run)]
	for i := range run {
		run[i] = entry(-7, -7)
	}
}

// What Of told may be written to without a change of what was handed in, of another run, or of another answer.
func TestRunsAreNewMemory(t *testing.T) {
	for _, chunks := range someChunks() {
		l := entriesOf(chunks...)
		for _, most := range mosts(len(l)) {
			memory := append(slices.Clone(l), entriesOf(5, 6)...)
			before := slices.Clone(memory)
			want, _ := expected(most, l)
			first, _ := Of(most, memory[:len(l)]...)
			second, _ := Of(most, memory[:len(l)]...)
			kept := copyOf(first)
			for i := range first {
				scribble(first[i])
				kept[i] = slices.Repeat(list(entry(-7, -7)), len(first[i]))
				if !equal(first, kept) {
					t.Fatalf("behind a write into run %d: %v, want %v", i, first, kept)
				}
			}
			all := first[:cap(first)]
			for i := range all {
				all[i] = nil
			}
			if !slices.Equal(memory, before) || !equal(second, want) {
				t.Errorf("behind a write into an answer: handed in %v, another answer %v", memory, second)
			}
			checkTold(t, most, memory[:len(l)], want, api.OK)
		}
	}
}

// What First told, likewise.
func TestFirstIsNewMemory(t *testing.T) {
	for _, chunks := range someChunks() {
		l := entriesOf(chunks...)
		for _, most := range mosts(len(l)) {
			memory := append(slices.Clone(l), entriesOf(5, 6)...)
			before := slices.Clone(memory)
			want, _ := expected(most, l)
			all, _ := Of(most, memory[:len(l)]...)
			first, _ := First(most, memory[:len(l)]...)
			second, _ := First(most, memory[:len(l)]...)
			scribble(first)
			if !slices.Equal(memory, before) || !equal(all, want) || !slices.Equal(second, firstOf(want)) {
				t.Errorf("behind a write into an answer: handed in %v, others %v, %v", memory, all, second)
			}
			checkTold(t, most, memory[:len(l)], want, api.OK)
		}
	}
}

// What was handed in may be written to without a change of what was told.
func TestNothingIsKept(t *testing.T) {
	for _, chunks := range someChunks() {
		l := entriesOf(chunks...)
		for _, most := range mosts(len(l)) {
			want, _ := expected(most, slices.Clone(l))
			want = copyOf(want)
			handed := slices.Clone(l)
			all, _ := Of(most, handed...)
			first, _ := First(most, handed...)
			scribble(handed)
			if !equal(all, want) || !slices.Equal(first, firstOf(want)) {
				t.Errorf("behind a write into what was handed in: %v, %v, want %v", all, first, want)
			}
		}
	}
}
