package dump

import (
	"fmt"
	"math"
	"slices"
	"strings"
	"testing"

	"oakum/api"
	"oakum/check"
)

func slotOf(state api.State, start, n int, gen uint32) api.Slot {
	return api.Slot{State: state, Store: api.Extent{Start: start, Len: n}, Gen: gen}
}

// crowd is a report of all that there can be: a line with an exception, one without, invalid, merging, and one with many.
func crowd() check.Report {
	return check.Report{Super: api.Super{Sectors: 120, Origin: 9, Chunk: 2}, Lines: []check.Line{
		{ID: 1, Slot: slotOf(api.Used, 25, 10, 3), Room: 4, Entries: []api.Entry{{Origin: 2, Index: 1}}},
		{ID: 2, Slot: slotOf(api.Used, 36, 4, 12), Room: 1, Invalid: true},
		{ID: 5, Slot: slotOf(api.Used, 40, 4, 4), Room: 1},
		{ID: 16, Slot: slotOf(api.Merging, 50, 30, 4294967295), Room: 13, Entries: []api.Entry{{Origin: 0, Index: 10}, {Origin: 1, Index: 0}, {Origin: 4, Index: 12}}},
	}}
}

// crowdDump is its dump.
func crowdDump() []string {
	return []string{
		"disk 120 origin 9 chunk 2",
		"slot 1 used 25 10 gen 3 room 4",
		"entry 2 1",
		"slot 2 used 36 4 gen 12 room 1 invalid",
		"slot 5 used 40 4 gen 4 room 1",
		"slot 16 merging 50 30 gen 4294967295 room 13",
		"entry 0 10",
		"entry 1 0",
		"entry 4 12",
	}
}

// bareDump is the dump of a report without lines.
const bareDump = "disk 60 origin 8 chunk 2"

// P20.1, Q1: Lines.

func TestDumps(t *testing.T) {
	store := slotOf(api.Used, 25, 10, 3)
	super := api.Super{Sectors: 60, Origin: 8, Chunk: 2}
	for _, x := range []struct {
		report check.Report
		want   []string
	}{
		{crowd(), crowdDump()},
		{check.Report{Super: super}, []string{bareDump}},
		{check.Report{Super: super, Lines: []check.Line{}}, []string{bareDump}},
		{check.Report{}, []string{"disk 0 origin 0 chunk 0"}},
		{check.Report{Lines: []check.Line{{Slot: api.Slot{State: api.Used}}}}, []string{"disk 0 origin 0 chunk 0", "slot 0 used 0 0 gen 0 room 0"}},
		{check.Report{Super: super, Lines: []check.Line{{ID: 1, Slot: store, Room: 4, Entries: []api.Entry{}}}}, []string{bareDump, "slot 1 used 25 10 gen 3 room 4"}},
		{check.Report{Super: api.Super{Sectors: greatest, Origin: greatest, Chunk: greatest}}, []string{"disk 4294967295 origin 4294967295 chunk 4294967295"}},
	} {
		if l, err := Lines(x.report); err != api.OK || !slices.Equal(l, x.want) {
			t.Errorf("%+v: %q, error %d, want %q", x.report, l, err, x.want)
		}
		if r, err := Parse(x.want...); err != api.OK || !sameReports(r, x.report) {
			t.Errorf("%q: %+v, error %d, want %+v", x.want, r, err, x.report)
		}
		checkLines(t, "report", x.report)
		checkParsed(t, "dump", x.want...)
	}
}

// What a report says is not asked, but whether it may be dumped: in any order, of any disk.
func TestDumpsOfWhateverReports(t *testing.T) {
	one := check.Line{ID: 1, Slot: slotOf(api.Merging, 25, 10, 3), Room: 4, Invalid: true, Entries: []api.Entry{{Origin: 9, Index: 5}, {Origin: 1, Index: 5}, {Origin: 9, Index: 5}}}
	two := check.Line{ID: 900, Slot: slotOf(api.Merging, 0, 0, 0), Room: greatest, Entries: []api.Entry{{}}}
	r := check.Report{Super: api.Super{Sectors: 1, Origin: 900, Chunk: 129}, Lines: []check.Line{two, one, one, two}}
	for range 40 {
		r.Lines = append(r.Lines, one)
	}
	if err := checkLines(t, "whatever", r); err != api.OK {
		t.Error(err)
	}
}

// edgeNumbers are those of which one alone may be in a report that may be dumped, and those that may not.
func edgeNumbers() (right, wrong []int) {
	right = []int{0, 1, 9, 10, 99, 100, 1<<16 - 1, 1 << 16, 1 << 20, math.MaxInt32, 1 << 31, 1<<31 + 1, 4294967290, greatest - 1, greatest}
	wrong = []int{-1, -2, -10, math.MinInt32, -greatest, -1 << 32, -1<<32 + 1, math.MinInt, math.MinInt + 1, greatest + 1, greatest + 2, 1<<32 + 100, 1 << 33, 1 << 62, math.MaxInt - 1, math.MaxInt}
	return right, wrong
}

// Each number at its edges.
func TestEachNumber(t *testing.T) {
	right, wrong := edgeNumbers()
	whole := crowd()
	for i := range numbersOf(&whole) {
		for _, n := range append(slices.Clone(right), wrong...) {
			r := crowd()
			*numbersOf(&r)[i] = n
			want := api.OK
			if slices.Contains(wrong, n) {
				want = api.ErrArg
			}
			if err := checkLines(t, fmt.Sprint("number ", i), r); err != want {
				t.Errorf("number %d is %d: error %d, want %d", i, n, err, want)
			}
		}
	}
}

// Each generation may be dumped.
func TestEachGen(t *testing.T) {
	for _, n := range []uint32{0, 1, 9, 10, math.MaxInt32, 1 << 31, math.MaxUint32 - 1, math.MaxUint32} {
		r := crowd()
		r.Lines[2].Slot.Gen = n
		l, err := Lines(r)
		if want := fmt.Sprintf("slot 5 used 40 4 gen %d room 1", n); err != api.OK || l[4] != want {
			t.Errorf("%q, error %d, want %q", l, err, want)
		}
		checkLines(t, fmt.Sprint("generation ", n), r)
	}
}

func TestEachState(t *testing.T) {
	for i := range crowd().Lines {
		for _, s := range []api.State{api.Used, api.Merging, api.Free, -1, -2, 3, 4, 255, 256, 257, 1<<32 + 1, -1<<32 + 2, math.MaxInt, math.MinInt, math.MinInt + 1} {
			r := crowd()
			r.Lines[i].Slot.State = s
			want := api.ErrArg
			if s == api.Used || s == api.Merging {
				want = api.OK
			}
			if err := checkLines(t, fmt.Sprint("line ", i), r); err != want {
				t.Errorf("line %d in state %d: error %d, want %d", i, s, err, want)
			}
		}
	}
	// A slot that is free is none that may be dumped, whatever else there is.
	if l, err := Lines(check.Report{Lines: []check.Line{{}}}); l != nil || err != api.ErrArg {
		t.Errorf("%q, error %d", l, err)
	}
}

// Much is wrong at once.
func TestMuchWrong(t *testing.T) {
	r := crowd()
	r.Super.Chunk, r.Lines[0].Slot.State, r.Lines[1].Room, r.Lines[3].Entries[2].Index = -1, api.Free, 1<<32, -1
	if err := checkLines(t, "much", r); err != api.ErrArg {
		t.Error(err)
	}
}

// P20.1, Q1: Parse.

func TestNoLines(t *testing.T) {
	checkNone(t, "no line")
	checkNone(t, "nil", []string(nil)...)
	checkNone(t, "empty list", []string{}...)
	checkNone(t, "an empty line", "")
	checkNone(t, "a blank", " ")
	checkNone(t, "empty lines", "", "", "")
	for i := range append(crowdDump(), "") {
		for _, s := range []string{"", " ", "\n", "  "} {
			checkNone(t, "one more", slices.Insert(crowdDump(), i, s)...)
		}
	}
}

// The superblock's line comes first, and no more than once; an exception has a slot ahead.
func TestOrder(t *testing.T) {
	l := crowdDump()
	for i := range l {
		err := checkParsed(t, fmt.Sprint("from ", i), l[i:]...)
		if i > 0 && err != api.ErrForm {
			t.Errorf("from line %d: %d", i, err)
		}
		checkParsed(t, fmt.Sprint("up to ", i), l[:i]...)
		checkParsed(t, fmt.Sprint("without ", i), slices.Delete(crowdDump(), i, i+1)...)
		checkNone(t, fmt.Sprint("another disk ahead of ", i), slices.Insert(crowdDump(), i, bareDump)...)
		for k := range l {
			x := crowdDump()
			x[i], x[k] = x[k], x[i]
			checkParsed(t, fmt.Sprint(i, " and ", k), x...)
		}
	}
	checkNone(t, "another disk behind all", append(l, bareDump)...)
	checkNone(t, "the same twice", bareDump, bareDump)
	checkNone(t, "an exception alone", "entry 1 2")
	checkNone(t, "an exception first", bareDump, "entry 1 2")
	checkNone(t, "an exception ahead of its slot", bareDump, "entry 1 2", l[1])
	checkNone(t, "a slot alone", l[1])
	checkNone(t, "all in one", strings.Join(l, " "))
	checkNone(t, "all in one, by lines", strings.Join(l, "\n"))
}

// formLines are a line of each form, and one that is invalid.
func formLines() []string {
	l := crowdDump()
	return []string{l[0], l[1], l[2], l[3], l[5]}
}

// with is a dump in which a line stands where it may.
func with(line string, i int) []string {
	switch i {
	case 0:
		return []string{line}
	case 2:
		return []string{bareDump, "slot 7 used 1 2 gen 3 room 4", line}
	}
	return []string{bareDump, line}
}

// Words are too few, too many, others, or in another order.
func TestWords(t *testing.T) {
	others := []string{
		"", "disk", "origin", "chunk", "slot", "used", "merging", "free", "gen", "room", "invalid", "entry", "Disk", "SLOT", "slots", "use", "-", "0", "1", "x", "\x00", "é",
	}
	for i, line := range formLines() {
		if err := checkParsed(t, line, with(line, i)...); err != api.OK {
			t.Fatalf("%q: %d", line, err)
		}
		words := strings.Split(line, " ")
		for k := range words {
			less := slices.Delete(slices.Clone(words), k, k+1)
			checkParsed(t, "a word less", with(strings.Join(less, " "), i)...)
			checkParsed(t, "less words", with(strings.Join(words[:k], " "), i)...)
			checkParsed(t, "words from there", with(strings.Join(words[k:], " "), i)...)
			for _, w := range append(others, words...) {
				other := slices.Clone(words)
				other[k] = w
				checkParsed(t, "another word", with(strings.Join(other, " "), i)...)
				checkParsed(t, "one more", with(strings.Join(slices.Insert(slices.Clone(words), k, w), " "), i)...)
				checkParsed(t, "one more behind", with(line+" "+w, i)...)
			}
			for j := range words {
				other := slices.Clone(words)
				other[k], other[j] = other[j], other[k]
				checkParsed(t, "words elsewhere", with(strings.Join(other, " "), i)...)
			}
		}
	}
	// Just one word of a line may be left out, or be more.
	for i, line := range formLines() {
		checkNone(t, "twice", with(line+" "+line, i)...)
		checkNone(t, "a word behind", with(line+" x", i)...)
		checkNone(t, "invalid twice", with(line+" invalid invalid", i)...)
		words := strings.Split(line, " ")
		if words[len(words)-1] != "invalid" {
			checkNone(t, "a word less", with(strings.Join(words[:len(words)-1], " "), i)...)
		}
	}
	checkNone(t, "an invalid disk", bareDump+" invalid")
	checkNone(t, "an invalid exception", with("entry 1 2 invalid", 2)...)
	checkNone(t, "a slot that is free", bareDump, "slot 1 free 0 0 gen 1 room 0")
	checkNone(t, "a valid slot", bareDump, "slot 1 used 25 10 gen 3 room 4 valid")
}

// Blanks are more or fewer, others, ahead or behind.
func TestBlanks(t *testing.T) {
	for i, line := range formLines() {
		for _, s := range []string{" " + line, line + " ", " " + line + " ", line + "\n", "\n" + line, line + "\x00", line + "\t", "\t" + line, line + "\r"} {
			checkNone(t, "ahead or behind", with(s, i)...)
		}
		for k := range line {
			if line[k] != ' ' {
				continue
			}
			for _, blank := range []string{"", "  ", "   ", "\t", "\n", "\r", "\v", " \t", "\t ", "\x00", ",", "\u00a0", "\u2003", "_"} {
				checkNone(t, "between", with(line[:k]+blank+line[k+1:], i)...)
			}
		}
	}
}

// Numbers that have needless noughts, or signs, or are none, or too great.
func TestFigures(t *testing.T) {
	wrong := []string{
		"", "00", "000", "01", "060", "0000000001", "00000000000000000000001", "+1", "-1", "-0", "+0", "--1", "1-", "1+", "- 1", "1.0", "1.", ".1", "1e3", "1E3", "0x1", "0X1F", "0b1", "0o7", "1_0", "_1", "1,000", "1 000",
		"a", "f", "ff", "l", "O", "x", "1x", "x1", "\u0661", "\uff11", "1\x00", "\x001", "\xff", "inf", "NaN", "½", "nil", "true",
		"4294967296", "4294967297", "4294967300", "4294967395", "5000000000", "8589934592", "9999999999", "10000000000", "18446744073709551615", "18446744073709551616", "18446744073709551617",
		"18446744073709551716", "-4294967295", "340282366920938463463374607431768211457", strings.Repeat("9", 400), "1" + strings.Repeat("0", 400), strings.Repeat("0", 400) + "1",
	}
	right := []string{"0", "1", "2", "9", "10", "101", "2147483647", "2147483648", "4294967289", "4294967290", "4294967294", "4294967295"}
	for i, line := range formLines() {
		words := strings.Split(line, " ")
		for k, w := range words {
			if w[0] < '0' || w[0] > '9' {
				continue
			}
			for _, n := range right {
				words[k] = n
				if err := checkParsed(t, n, with(strings.Join(words, " "), i)...); err != api.OK {
					t.Errorf("%q: error %d", words, err)
				}
			}
			for _, n := range wrong {
				words[k] = n
				checkNone(t, n, with(strings.Join(words, " "), i)...)
			}
			words[k] = w
		}
	}
}

// All ten figures, in each number: what is parsed is what stands there.
func TestManyNumbers(t *testing.T) {
	for n := range 3000 {
		l := []string{
			fmt.Sprintf("disk %d origin %d chunk %d", n, n+1, n+2), fmt.Sprintf("slot %d used %d %d gen %d room %d", n+3, n+4, n+5, n+6, n+7), fmt.Sprintf("entry %d %d", n+8, n+9),
		}
		want := check.Report{Super: api.Super{Sectors: n, Origin: n + 1, Chunk: n + 2}, Lines: []check.Line{
			{ID: n + 3, Slot: slotOf(api.Used, n+4, n+5, uint32(n+6)), Room: n + 7, Entries: []api.Entry{{Origin: n + 8, Index: n + 9}}},
		}}
		if r, err := Parse(l...); err != api.OK || !sameReports(r, want) {
			t.Fatalf("%q: %+v, error %d", l, r, err)
		}
		checkLines(t, fmt.Sprint(n), want)
	}
}

// A wrong line is seen wherever it stands, and whatever stands ahead is not told.
func TestWrongLineAnywhere(t *testing.T) {
	wrong := []string{"", "x", "entry 1", "entry 1 2 3", "slot 1 free 1 1 gen 1 room 1", "slot", "entry", "disk", "disk 1 origin 1 chunk", "slot 1 used 1 1 gen 1 room 4294967296", "entry -1 1", "ENTRY 1 1"}
	for i := range append(crowdDump(), "") {
		for _, s := range wrong {
			l := slices.Insert(crowdDump(), i, s)
			checkNone(t, fmt.Sprint("more at ", i), l...)
			r, err := Parse(l...)
			if err != api.ErrForm || r.Super != (api.Super{}) || r.Lines != nil {
				t.Errorf("%q: %+v, error %d", l, r, err)
			}
			if i < len(crowdDump()) {
				l = crowdDump()
				l[i] = s
				checkNone(t, fmt.Sprint("at ", i), l...)
			}
		}
	}
}
