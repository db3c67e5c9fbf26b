package dump

import (
	"fmt"
	"math/big"
	"reflect"
	"regexp"
	"slices"
	"strings"
	"testing"

	"oakum/api"
	"oakum/check"
)

// A plain dump, by the chapter's words, with the library's texts.

const greatest = 1<<32 - 1

// numbersOf are all numbers of a report, but the generations, which can't be others than a dump has.
func numbersOf(r *check.Report) []*int {
	l := []*int{&r.Super.Sectors, &r.Super.Origin, &r.Super.Chunk}
	for i := range r.Lines {
		x := &r.Lines[i]
		l = append(l, &x.ID, &x.Slot.Store.Start, &x.Slot.Store.Len, &x.Room)
		for k := range x.Entries {
			l = append(l, &x.Entries[k].Origin, &x.Entries[k].Index)
		}
	}
	return l
}

// mayBeDumped tells whether a report may be.
func mayBeDumped(r check.Report) bool {
	for _, n := range numbersOf(&r) {
		if *n < 0 || *n > greatest {
			return false
		}
	}
	return !slices.ContainsFunc(r.Lines, func(x check.Line) bool { return x.Slot.State != 1 && x.Slot.State != 2 })
}

// plainLines is a report's dump.
func plainLines(r check.Report) ([]string, api.Errno) {
	if !mayBeDumped(r) {
		return nil, api.ErrArg
	}
	l := []string{fmt.Sprintf("disk %d origin %d chunk %d", r.Super.Sectors, r.Super.Origin, r.Super.Chunk)}
	for _, x := range r.Lines {
		s := fmt.Sprintf("slot %d %s %d %d gen %d room %d", x.ID, [...]string{"free", "used", "merging"}[x.Slot.State], x.Slot.Store.Start, x.Slot.Store.Len, x.Slot.Gen, x.Room)
		if x.Invalid {
			s += " invalid"
		}
		l = append(l, s)
		for _, e := range x.Entries {
			l = append(l, fmt.Sprintf("entry %d %d", e.Origin, e.Index))
		}
	}
	return l, api.OK
}

// The forms of lines; a number may still be too great.
var (
	diskForm  = formOf("disk N origin N chunk N")
	slotForm  = formOf("slot N (used|merging) N N gen N room N( invalid)?")
	entryForm = formOf("entry N N")
)

func formOf(s string) *regexp.Regexp {
	return regexp.MustCompile(`\A` + strings.ReplaceAll(s, "N", `(0|[1-9][0-9]*)`) + `\z`)
}

// parts are the numbers of a line of a form, and its other parts; nothing, if it is none.
func parts(form *regexp.Regexp, line string) ([]int, []string) {
	m := form.FindStringSubmatch(line)
	if m == nil {
		return nil, nil
	}
	var numbers []int
	var others []string
	for _, s := range m[1:] {
		n, ok := new(big.Int).SetString(s, 10)
		switch {
		case !ok:
			others = append(others, s)
		case n.Cmp(big.NewInt(greatest)) > 0:
			return nil, nil
		default:
			numbers = append(numbers, int(n.Int64()))
		}
	}
	return numbers, others
}

// plainParse is the report of these lines.
func plainParse(l ...string) (check.Report, api.Errno) {
	var r check.Report
	for i, s := range l {
		disk, _ := parts(diskForm, s)
		slot, words := parts(slotForm, s)
		entry, _ := parts(entryForm, s)
		last := len(r.Lines) - 1
		switch {
		case i == 0 && disk != nil:
			r.Super = api.Super{Sectors: disk[0], Origin: disk[1], Chunk: disk[2]}
		case i > 0 && slot != nil:
			state := map[string]api.State{"used": 1, "merging": 2}[words[0]]
			store := api.Extent{Start: slot[1], Len: slot[2]}
			r.Lines = append(r.Lines, check.Line{ID: slot[0], Slot: api.Slot{State: state, Store: store, Gen: uint32(slot[3])}, Room: slot[4], Invalid: words[1] != ""})
		case i > 0 && entry != nil && last >= 0:
			r.Lines[last].Entries = append(r.Lines[last].Entries, api.Entry{Origin: entry[0], Index: entry[1]})
		default:
			return check.Report{}, api.ErrForm
		}
	}
	if len(l) == 0 {
		return check.Report{}, api.ErrForm
	}
	return r, api.OK
}

// sameReports tells whether two reports have the same: a list without elements may be nil or not.
func sameReports(a, b check.Report) bool {
	return a.Super == b.Super && slices.EqualFunc(a.Lines, b.Lines, func(x, y check.Line) bool {
		return x.ID == y.ID && x.Slot == y.Slot && x.Room == y.Room && x.Invalid == y.Invalid && slices.Equal(x.Entries, y.Entries)
	})
}

// cloned is a report that shares no memory with another one.
func cloned(r check.Report) check.Report {
	r.Lines = slices.Clone(r.Lines)
	for i := range r.Lines {
		r.Lines[i].Entries = slices.Clone(r.Lines[i].Entries)
	}
	return r
}

// checkLines holds a report's dump against the plain one, and the report that is parsed from it against that report; the
// error that was told.
func checkLines(t testing.TB, what string, r check.Report) api.Errno {
	t.Helper()
	was := cloned(r)
	want, wantErr := plainLines(r)
	l, err := Lines(r)
	if err != wantErr || !slices.Equal(l, want) {
		t.Fatalf("%s: dump of %+v: %q, error %d, want %q, %d", what, r, l, err, want, wantErr)
	}
	if !reflect.DeepEqual(r, was) {
		t.Fatalf("%s: the report was %+v, and is %+v", what, was, r)
	}
	if err != api.OK {
		return err
	}
	if again, err := Parse(l...); err != api.OK || !sameReports(again, r) {
		t.Fatalf("%s: parsed from the dump %q: %+v, error %d, want %+v", what, l, again, err, r)
	}
	return err
}

// checkParsed holds the report that is parsed against the plain one, and its dump against the lines; the error that was
// told.
func checkParsed(t testing.TB, what string, l ...string) api.Errno {
	t.Helper()
	was := slices.Clone(l)
	want, wantErr := plainParse(l...)
	r, err := Parse(l...)
	if err != wantErr || !sameReports(r, want) {
		t.Fatalf("%s: parsed from %q: %+v, error %d, want %+v, %d", what, l, r, err, want, wantErr)
	}
	if !slices.Equal(l, was) {
		t.Fatalf("%s: the lines were %q, and are %q", what, was, l)
	}
	if err != api.OK {
		return err
	}
	if again, err := Lines(r); err != api.OK || !slices.Equal(again, l) {
		t.Fatalf("%s: dump of what is parsed from %q: %q, error %d", what, l, again, err)
	}
	return err
}

// checkNone holds that lines are none's.
func checkNone(t testing.TB, what string, l ...string) {
	t.Helper()
	if err := checkParsed(t, what, l...); err != api.ErrForm {
		t.Fatalf("%s: %q: error %d", what, l, err)
	}
}
