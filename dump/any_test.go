package dump

import (
	"fmt"
	"math"
	"math/rand"
	"reflect"
	"slices"
	"strings"
	"testing"

	"oakum/api"
	"oakum/check"
)

// P20.2 (there and back), and P1 and P2, whatever is handed in.

// letters are those of which a dump is made, and some of which none is.
const letters = "0123456789 adegiklmnoprstuvcfhj\x00\n\t-+A_\x7f\xff"

// Each byte of a dump is another one, or left out, or one more stands there.
func TestEachByte(t *testing.T) {
	for i := range crowdDump() {
		for at := range len(crowdDump()[i]) + 1 {
			l := crowdDump()
			line := l[i]
			for k := range len(letters) {
				l[i] = line[:at] + letters[k:k+1] + line[at:]
				checkParsed(t, "one more", l...)
				if at < len(line) {
					l[i] = line[:at] + letters[k:k+1] + line[at+1:]
					checkParsed(t, "another one", l...)
				}
			}
			if at < len(line) {
				l[i] = line[:at] + line[at+1:]
				checkParsed(t, "one less", l...)
			}
			l[i] = line[:at]
			checkParsed(t, "cut off", l...)
			l[i] = line[at:]
			checkParsed(t, "cut off ahead", l...)
			if at > 0 && at < len(line) {
				checkParsed(t, "parted", slices.Replace(crowdDump(), i, i+1, line[:at], line[at:])...)
			}
		}
	}
}

// maker makes reports and lines in no order.
type maker struct{ *rand.Rand }

// number is one of a report; mostly one that may be dumped, if not always.
func (r maker) number(right bool) int {
	if !right && r.Intn(12) == 0 {
		return []int{-1, greatest + 1, math.MaxInt, math.MinInt, -r.Intn(1 << 40), greatest + r.Intn(1<<40)}[r.Intn(6)]
	}
	switch r.Intn(4) {
	case 0:
		return r.Intn(12)
	case 1:
		return r.Intn(greatest + 1)
	case 2:
		return []int{0, 1, 10, math.MaxInt32, 1 << 31, greatest - 1, greatest}[r.Intn(7)]
	}
	return r.Intn(1 << (1 + r.Intn(32)))
}

func (r maker) state(right bool) api.State {
	if !right && r.Intn(12) == 0 {
		return []api.State{api.Free, -1, 3, math.MaxInt}[r.Intn(4)]
	}
	return api.State(1 + r.Intn(2))
}

func (r maker) report(right bool) check.Report {
	n := func() int { return r.number(right) }
	x := check.Report{Super: api.Super{Sectors: n(), Origin: n(), Chunk: n()}}
	for range r.Intn(5) {
		s := check.Line{ID: n(), Slot: slotOf(r.state(right), n(), n(), r.Uint32()>>r.Intn(33)), Room: n(), Invalid: r.Intn(3) == 0}
		for range r.Intn(4) * r.Intn(4) {
			s.Entries = append(s.Entries, api.Entry{Origin: n(), Index: n()})
		}
		x.Lines = append(x.Lines, s)
	}
	return x
}

func TestManyReports(t *testing.T) {
	r, told := maker{rand.New(rand.NewSource(1))}, map[api.Errno]int{}
	for k := range 20000 {
		right := k%2 == 0
		err := checkLines(t, fmt.Sprint("report ", k), r.report(right))
		if right && err != api.OK {
			t.Fatalf("report %d: error %d", k, err)
		}
		told[err]++
	}
	if told[api.OK] < 5000 || told[api.ErrArg] < 2000 {
		t.Errorf("told %v", told)
	}
}

// line is one of a dump, or nearly.
func (r maker) line() string {
	words := []string{"disk", "N", "origin", "N", "chunk", "N"}
	switch r.Intn(5) {
	case 0, 1:
		words = []string{"slot", "N", []string{"used", "merging", "free"}[r.Intn(21)/10], "N", "N", "gen", "N", "room", "N", "invalid"}[:9+r.Intn(2)]
	case 2, 3:
		words = []string{"entry", "N", "N"}
	}
	for i, w := range words {
		if w == "N" {
			words[i] = fmt.Sprint(r.number(r.Intn(30) > 0))
		}
	}
	if r.Intn(60) == 0 {
		words[r.Intn(len(words))] = []string{"", "disk", "used", "07", "+1", "x"}[r.Intn(6)]
	}
	if r.Intn(60) == 0 {
		words = words[:r.Intn(len(words)+1)]
	}
	return strings.Join(words, " ")
}

func TestManyLines(t *testing.T) {
	r, told := maker{rand.New(rand.NewSource(2))}, map[api.Errno]int{}
	for k := range 60000 {
		l := []string{fmt.Sprintf("disk %d origin %d chunk %d", r.number(true), r.number(true), r.number(true))}
		if r.Intn(20) == 0 {
			l = nil
		}
		for range r.Intn(5) {
			l = append(l, r.line())
		}
		told[checkParsed(t, fmt.Sprint("lines ", k), l...)]++
	}
	if told[api.OK] < 5000 || told[api.ErrForm] < 5000 {
		t.Errorf("told %v", told)
	}
}

// P1: any bytes at all.
func TestAnyLines(t *testing.T) {
	r := rand.New(rand.NewSource(3))
	for k := range 20000 {
		l := make([]string, r.Intn(4))
		for i := range l {
			b := make([]byte, r.Intn(40))
			r.Read(b)
			if r.Intn(2) == 0 {
				for j := range b {
					b[j] = letters[int(b[j])%len(letters)]
				}
			}
			l[i] = string(b)
		}
		checkParsed(t, fmt.Sprint("any ", k), l...)
		checkParsed(t, fmt.Sprint("any behind ", k), append([]string{bareDump}, l...)...)
		if len(l) > 0 {
			checkParsed(t, fmt.Sprint("any in it ", k), bareDump, "slot 1 used 1 1 gen 1 room 1 "+l[0], "entry 1 "+l[0])
		}
	}
}

// Long ones: of many lines, of many exceptions, and of lines that are no dump's.
func TestLongDumps(t *testing.T) {
	r := maker{rand.New(rand.NewSource(4))}
	x := check.Report{Super: api.Super{Sectors: 1 << 20, Origin: 1000, Chunk: 1}}
	for range 300 {
		s := check.Line{ID: r.number(true), Slot: slotOf(api.Used, r.number(true), r.number(true), 1), Room: r.number(true)}
		for range 300 {
			s.Entries = append(s.Entries, api.Entry{Origin: r.number(true), Index: r.number(true)})
		}
		x.Lines = append(x.Lines, s)
	}
	checkLines(t, "300 times 300", x)
	x.Lines[299].Entries[299].Index = -1
	checkLines(t, "but the last one", x)
	long := strings.Repeat("entry 1 2 ", 1<<18)
	for _, s := range []string{long, strings.Repeat(" ", 1<<22), strings.Repeat("1", 1<<22), "entry " + strings.Repeat("0", 1<<22), "slot 1 used 1 1 gen 1 room 1" + strings.Repeat(" invalid", 1<<18)} {
		if r, err := Parse(bareDump, "slot 1 used 1 1 gen 1 room 1", s); err != api.ErrForm || !reflect.DeepEqual(r, check.Report{}) {
			t.Errorf("%.20q: error %d", s, err)
		}
	}
}

// P2: the same again, whatever was asked between.
func TestTheSameAgain(t *testing.T) {
	r := maker{rand.New(rand.NewSource(5))}
	var reports []check.Report
	var dumps [][]string
	var told []api.Errno
	for range 300 {
		x := r.report(r.Intn(2) == 0)
		l, err := Lines(x)
		reports, dumps, told = append(reports, x), append(dumps, slices.Clone(l)), append(told, err)
	}
	for _, k := range r.Perm(300) {
		l, err := Lines(reports[k])
		if err != told[k] || !slices.Equal(l, dumps[k]) {
			t.Fatalf("%q, error %d, and first %q, %d", l, err, dumps[k], told[k])
		}
		x, err := Parse(dumps[k]...)
		if again, errAgain := Parse(dumps[k]...); err != errAgain || !sameReports(x, again) {
			t.Fatalf("%+v, error %d, and first %+v, %d", again, errAgain, x, err)
		}
	}
}

// Rule 4: what is answered is new memory, and what lies behind lists is neither read nor written.
func TestNewMemory(t *testing.T) {
	whole := crowd()
	l, _ := Lines(whole)
	for i := range l {
		l[i] = "x"
	}
	_ = append(l, "y")
	if again, err := Lines(whole); err != api.OK || !slices.Equal(again, crowdDump()) {
		t.Errorf("behind other lines: %q, error %d", again, err)
	}
	lines := crowdDump()
	r, _ := Parse(lines...)
	clear(lines)
	if !sameReports(r, crowd()) {
		t.Errorf("behind other lines: %+v", r)
	}
	other, _ := Parse(crowdDump()...)
	for i := range r.Lines {
		_ = append(r.Lines[i].Entries, api.Entry{Origin: 77, Index: 77}, api.Entry{Origin: 78, Index: 78})
	}
	if !sameReports(r, crowd()) {
		t.Errorf("behind more exceptions: %+v", r)
	}
	for i := range r.Lines {
		clear(r.Lines[i].Entries)
	}
	clear(r.Lines)
	if !sameReports(other, crowd()) {
		t.Errorf("behind another answer: %+v", other)
	}
}

func TestBehindLists(t *testing.T) {
	wrong := check.Line{ID: -1}
	r := crowd()
	r.Lines = append(r.Lines, wrong, wrong)
	r.Lines[3].Entries = append(r.Lines[3].Entries, api.Entry{Origin: -1}, api.Entry{Index: -1})
	was := cloned(r)
	short := r
	short.Lines = slices.Clone(r.Lines)[:4]
	short.Lines[3].Entries = r.Lines[3].Entries[:3]
	if l, err := Lines(short); err != api.OK || !slices.Equal(l, crowdDump()) {
		t.Errorf("%q, error %d", l, err)
	}
	if !reflect.DeepEqual(r, was) || !reflect.DeepEqual(short.Lines[:6][4:], []check.Line{wrong, wrong}) {
		t.Errorf("%+v, and was %+v", r, was)
	}
	l := append(crowdDump(), "x", "y")
	if x, err := Parse(l[:len(l)-2]...); err != api.OK || !sameReports(x, crowd()) || !slices.Equal(l[len(l)-2:], []string{"x", "y"}) {
		t.Errorf("%+v, error %d, of %q", x, err, l)
	}
}
