package store

import (
	"fmt"
	"slices"
	"testing"

	"oakum/api"
	"oakum/disk"
)

// hopes is what may be found behind a failure, by P14.2: of each chunk, sector by sector, the bytes that it may have;
// which chunks must be found; and whether the store may be, or must be, invalid.
type hopes struct {
	bytes               map[int][][]string
	must                map[int]bool
	mayBeBad, mustBeBad bool
}

// expect is what may be found of a store of which all is flushed.
func expect(p *plain) *hopes {
	h := &hopes{bytes: map[int][][]string{}, must: map[int]bool{}, mayBeBad: p.invalid, mustBeBad: p.invalid}
	for _, e := range p.all() {
		h.bytes[e.Origin] = eachAlone(p.bytes[e.Index])
		h.must[e.Origin] = true
	}
	return h
}

// eachAlone is, of each sector, the only bytes that it may have.
func eachAlone(data string) [][]string {
	var l [][]string
	for i := range len(data) / sectorSize {
		l = append(l, []string{data[i*sectorSize:][:sectorSize]})
	}
	return l
}

// begun is what may be found, too, when a call was begun.
func (h *hopes) begun(c call) {
	for _, x := range c.copies {
		h.bytes[x.Origin] = eachAlone(x.Data)
	}
	for _, origin := range c.origins {
		delete(h.must, origin)
	}
	if c.op == "write" {
		for i, data := range written(c.from, c.data) {
			l := h.bytes[c.origin]
			l[c.from+i] = append(l[c.from+i], data.data)
		}
	}
	if c.op == "spoil" {
		h.mayBeBad = true
	}
}

// check holds a store that is opened behind a failure against what may be found.
func (h *hopes) check(t testing.TB, s *Store, chunk int) {
	t.Helper()
	if s.Invalid() {
		if !h.mayBeBad || s.Left() != 0 || len(s.All()) != 0 {
			t.Fatalf("an invalid store, with %v, %d left", s.All(), s.Left())
		}
		return
	}
	if h.mustBeBad {
		t.Fatal("the store is valid again")
	}
	for origin := range h.must {
		if !s.Has(origin) {
			t.Fatalf("%d is not found: %v", origin, s.All())
		}
	}
	for _, e := range s.All() {
		may, ok := h.bytes[e.Origin]
		if !ok {
			t.Fatalf("%v is found", e)
		}
		for i := range chunk {
			data, err := s.Read(e.Origin, i, 1)
			if err != api.OK || !slices.Contains(may[i], data) {
				t.Fatalf("sector %d of %d is %q, %d, none of %q", i, e.Origin, data, err, may[i])
			}
		}
	}
}

// allKeeps are all ways to keep some of so many writes.
func allKeeps(n int) [][]bool {
	l := [][]bool{{}}
	for range n {
		var longer [][]bool
		for _, keep := range l {
			longer = append(longer, append(slices.Clone(keep), false), append(slices.Clone(keep), true))
		}
		l = longer
	}
	return l
}

// story is a store, calls on it that tell no error, and the last one, in which the power fails.
type story struct {
	site
	flushed []call // all stands that they wrote
	pending []call // they do not flush
	last    call
}

func stories() []story {
	s, w, f := small(), wide(), full()
	var all []Copy
	for i := range w.chunks {
		all = append(all, w.copyOf(100+i, "all"))
	}
	return []story{
		{s, nil, nil, adding(s.copyOf(4, "a"))},
		{s, nil, nil, adding(s.copiesOf("a", 4, 1, 9)...)},
		{s, []call{adding(s.copiesOf("a", 4, 1)...)}, nil, adding(s.copyOf(9, "b"))},
		{s, []call{adding(s.copiesOf("a", 4, 1)...)}, nil, writing(1, 0, sectorsOf("b", 2))},
		{s, []call{adding(s.copiesOf("a", 4, 1)...)}, nil, writing(1, 1, sectorOf("b"))},
		{s, []call{adding(s.copiesOf("a", 4, 1)...)}, nil, removing(1)},
		{s, []call{adding(s.copiesOf("a", 4, 1, 9)...)}, nil, removing(9, 4)},
		{s, []call{adding(s.copiesOf("a", 4, 1)...)}, nil, spoiling()},
		{s, []call{adding(s.copiesOf("a", 4, 1)...), spoiling()}, nil, spoiling()},
		{s, []call{adding(s.copiesOf("a", 4, 1, 9)...), removing(4, 1)}, nil, adding(s.copiesOf("b", 2, 4)...)},
		{s, []call{adding(s.copiesOf("a", 4, 1)...)}, []call{writing(4, 1, sectorOf("b")), writing(1, 0, sectorsOf("c", 2)), writing(4, 1, sectorOf("d"))}, adding(s.copyOf(9, "e"))},
		{s, []call{adding(s.copiesOf("a", 4, 1)...)}, []call{writing(4, 1, sectorOf("b")), writing(1, 0, sectorsOf("c", 2))}, removing(4)},
		{s, []call{adding(s.copiesOf("a", 4, 1)...)}, []call{writing(4, 1, sectorOf("b")), writing(1, 0, sectorsOf("c", 2))}, writing(4, 0, sectorsOf("d", 2))},
		{s, []call{adding(s.copiesOf("a", 4, 1)...)}, []call{writing(4, 1, sectorOf("b")), writing(1, 0, sectorsOf("c", 2))}, spoiling()},
		{w, []call{adding(all[:12]...)}, nil, adding(w.copiesOf("b", 7, 8)...)},
		{w, []call{adding(all...), removing(113, 105)}, nil, adding(w.copiesOf("b", 7, 8)...)},
		{w, []call{adding(all...)}, nil, removing(113, 105)},
		{w, []call{adding(all...)}, []call{writing(113, 0, sectorOf("b")), writing(105, 0, sectorOf("c"))}, removing(100, 113)},
		{w, []call{adding(all[:10]...)}, nil, adding(w.copiesOf("b", 7, 8, 9, 10)...)},
		{w, []call{adding(all[:7]...)}, nil, adding(all[7:]...)},
		{f, []call{adding(f.copiesOf("a", 5, 4, 3, 2, 1)...), removing(5, 4)}, nil, adding(f.copiesOf("b", 4, 5)...)},
	}
}

// told is the story on a disk, up to the call ahead of the last one, and what may be found then.
func (x story) told(t *testing.T) (*disk.Disk, *plain, *hopes) {
	t.Helper()
	d, p := x.junk(), x.plain()
	s := x.mustCreate(t, d)
	for _, c := range x.flushed {
		x.mustDo(t, s, p, c)
	}
	h := expect(p)
	for _, c := range x.pending {
		x.mustDo(t, s, p, c)
		h.begun(c)
	}
	return d, p, h
}

func (x story) mustDo(t *testing.T, s *Store, p *plain, c call) {
	t.Helper()
	if _, err := c.onPlain(p); err != api.OK {
		t.Fatalf("%v of a plain store = %d", c, err)
	}
	if err := c.on(s); err != api.OK {
		t.Fatalf("%v = %d", c, err)
	}
}

// P14.2: the power fails at each thing of a call, and behind the last one, with each of the pending writes kept or lost.
func TestWhateverFails(t *testing.T) {
	for i, x := range stories() {
		t.Run(fmt.Sprint(i, x.last), func(t *testing.T) {
			for fuse := 0; x.failsAt(t, fuse); fuse++ {
			}
		})
	}
}

// failsAt tells whether the last call fails with this fuse.
func (x story) failsAt(t *testing.T, fuse int) bool {
	t.Helper()
	d, p, h := x.told(t)
	s := x.mustOpen(t, d)
	d.Fail(fuse)
	err := x.last.on(s)
	switch {
	case err == api.ErrCrash:
		h.begun(x.last)
	case err == api.OK && x.last.op == "write":
		h.begun(x.last)
	case err == api.OK:
		x.last.onPlain(p)
		h = expect(p)
	default:
		t.Fatalf("fuse %d: %d", fuse, err)
	}
	for _, keep := range allKeeps(d.Pending()) {
		e := d.Clone()
		e.Restart(keep...)
		h.check(t, x.mustOpen(t, e), x.parted.Chunk)
		x.goesOn(t, e)
	}
	return err == api.ErrCrash
}

// goesOn holds that the store that is found behind a failure is one as any other: what it has is all that it has.
func (x story) goesOn(t *testing.T, d *disk.Disk) {
	t.Helper()
	s := x.mustOpen(t, d)
	p := x.found(t, s)
	var c call
	switch {
	case s.Invalid():
		c = spoiling()
	case s.Left() > 0:
		c = adding(x.copyOf(77, "next"))
	default:
		c = removing(s.All()[0].Origin)
	}
	x.mustDo(t, s, p, c)
	checkStore(t, s, p)
	d.Restart()
	checkStore(t, x.mustOpen(t, d), p)
}

// found is a plain store of what one has.
func (x site) found(t testing.TB, s *Store) *plain {
	t.Helper()
	p := x.plain()
	p.invalid = s.Invalid()
	for _, e := range s.All() {
		data, err := s.Read(e.Origin, 0, x.parted.Chunk)
		if err != api.OK {
			t.Fatalf("Read(%d) = %d", e.Origin, err)
		}
		p.places[e.Index], p.bytes[e.Index] = e.Origin, data
	}
	return p
}

// P14.2: an exception is not found ahead of the flush behind its bytes, and then page by page; all of them are, once Add
// told no error. Each outcome that the chapter's order of writes allows is seen, and no other one.
func TestEachOutcomeOfAdd(t *testing.T) {
	x := wide()
	var all []Copy
	for i := range 12 {
		all = append(all, x.copyOf(100+i, "all"))
	}
	seen := map[string]bool{}
	for fuse := range 7 { // two sectors, a flush, two pages, a flush; and none of them fails
		d := x.junk()
		s := x.mustCreate(t, d)
		if err := s.Add(all...); err != api.OK {
			t.Fatal(err)
		}
		d.Fail(fuse)
		err := s.Add(x.copiesOf("b", 7, 8)...)
		if (err == api.OK) != (fuse == 6) {
			t.Fatalf("fuse %d: %d", fuse, err)
		}
		for _, keep := range allKeeps(d.Pending()) {
			e := d.Clone()
			e.Restart(keep...)
			s := x.mustOpen(t, e)
			seen[fmt.Sprint(fuse, s.Has(7), s.Has(8))] = true
		}
	}
	want := []string{
		"0 false false", "1 false false", "2 false false", "3 false false",
		"4 false false", "4 true false",
		"5 false false", "5 false true", "5 true false", "5 true true",
		"6 true true",
	}
	if len(seen) != len(want) {
		t.Errorf("%v, want %v", seen, want)
	}
	for _, one := range want {
		if !seen[one] {
			t.Errorf("%q is never seen: %v", one, seen)
		}
	}
}

// P14.2, Create: behind a failure an empty store stands there, or none; one, once it told no error.
func TestCreateFails(t *testing.T) {
	for _, x := range []site{small(), wide(), full(), long()} {
		things := len(x.pages) + 2
		for fuse := range things + 1 {
			d := x.junk()
			d.Fail(fuse)
			s, err := Create(d, x.layout(t), x.at, x.gen)
			if (err == api.OK) != (fuse == things) || err != api.OK && err != api.ErrCrash || (s == nil) != (err != api.OK) {
				t.Fatalf("fuse %d of %d: %v, %d", fuse, things, s, err)
			}
			for _, keep := range allKeeps(d.Pending()) {
				e := d.Clone()
				e.Restart(keep...)
				// Of as many pending writes as pages and a head all must be kept.
				stands := fuse == things || len(keep) == things-1 && !slices.Contains(keep, false)
				s, err := x.open(t, e)
				switch {
				case stands && err == api.OK:
					checkStore(t, s, x.plain())
				case stands || err != api.ErrCorrupt || s != nil:
					t.Fatalf("fuse %d, keep %v: %v, %d", fuse, keep, s, err)
				}
				checkStore(t, x.mustCreate(t, e), x.plain())
			}
		}
	}
}

// P14.2: Open and Read do no thing, so none of them fails; and nothing that they do can be lost.
func TestOpenAndReadNeedNoPower(t *testing.T) {
	for _, x := range stories() {
		d, p, _ := x.told(t)
		d.Fail(0)
		s := x.mustOpen(t, d)
		checkStore(t, s, p)
		if d.Dead() {
			t.Errorf("behind Open and Read the disk is dead")
		}
	}
}

// P1: behind an error of the disk a store is not used any more; but each call on it ends, and none panics.
func TestCallsBehindAFailure(t *testing.T) {
	for _, x := range stories() {
		for fuse := range 4 {
			for _, restart := range []bool{false, true} {
				d, _, _ := x.told(t)
				s := x.mustOpen(t, d)
				d.Fail(fuse)
				x.last.on(s)
				if restart {
					d.Restart()
				}
				s.Invalid()
				for _, e := range append(s.All(), api.Entry{Origin: 77}) {
					s.Has(e.Origin)
					s.Read(e.Origin, 0, 1)
					s.Write(e.Origin, 0, sectorOf("x"))
				}
				s.Left()
				s.Add(x.copyOf(78, "x"))
				s.Remove(78)
				for _, e := range s.All() {
					s.Remove(e.Origin)
				}
				s.Spoil()
				s.Spoil()
				s.Add(x.copyOf(79, "x"))
			}
		}
	}
}

// P14.1, P14.2, P2: many calls, with failures among them, on two stores with the same calls.

// numbers are from a fixed rule.
type numbers uint64

func (r *numbers) below(n int) int {
	x := uint64(*r)
	x ^= x << 13
	x ^= x >> 7
	x ^= x << 17
	*r = numbers(x)
	return int(x>>20) % n
}

// anyCall is one, that is refused more or less often.
func (x site) anyCall(r *numbers) call {
	origins := func() []int {
		var l []int
		for range r.below(5) {
			l = append(l, r.below(3*len(x.chunks)/2+2)-1)
		}
		return l
	}
	switch r.below(12) {
	case 0, 1, 2, 3, 4:
		return adding(x.copiesOf(fmt.Sprint("c", r.below(1000)), origins()...)...)
	case 5, 6, 7:
		return removing(origins()...)
	case 8, 9, 10:
		data := sectorsOf(fmt.Sprint("w", r.below(1000)), r.below(x.parted.Chunk+1))
		return writing(r.below(2*len(x.chunks)), r.below(x.parted.Chunk), data)
	}
	if r.below(6) == 0 {
		return spoiling()
	}
	return adding(x.copyOf(r.below(2*len(x.chunks)), "one"))
}

// saga is a bench on which the power fails: what may be found behind that is told by its hopes.
type saga struct {
	*bench
	hopes *hopes
}

// step does one call, perhaps with a fuse, and tells its error.
func (x *saga) step(t *testing.T, r *numbers) api.Errno {
	t.Helper()
	c := x.anyCall(r)
	things, want := c.onPlain(x.plain.clone())
	fuse := -1
	if r.below(3) == 0 {
		fuse = r.below(12)
	}
	if fuse >= 0 && fuse < len(things) {
		want = api.ErrCrash
	}
	x.disk.Fail(fuse)
	if err := c.on(x.store); err != want {
		t.Fatalf("%v with fuse %d = %d, want %d", c, fuse, err, want)
	}
	x.disk.Fail(-1)
	switch {
	case want == api.ErrCrash:
		x.hopes.begun(c)
		x.fail(t, r)
	case want == api.OK:
		c.onPlain(x.plain)
		if c.op == "write" {
			x.hopes.begun(c)
		} else if len(things) > 0 {
			x.hopes = expect(x.plain)
		}
		if r.below(10) == 0 {
			x.fail(t, r)
		}
	}
	x.check(t)
	return want
}

// fail restarts the disk, keeps any of the pending writes, and takes what is found for what is.
func (x *saga) fail(t *testing.T, r *numbers) {
	t.Helper()
	var keep []bool
	for range x.disk.Pending() {
		keep = append(keep, r.below(2) == 0)
	}
	x.disk.Restart(keep...)
	x.store = x.mustOpen(t, x.disk)
	x.hopes.check(t, x.store, x.parted.Chunk)
	x.plain = x.found(t, x.store)
	x.hopes = expect(x.plain)
}

func TestManyCalls(t *testing.T) {
	for _, x := range sites() {
		one, other := numbers(88172645463325252), numbers(88172645463325252)
		for range 12 {
			a, b := &saga{bench: x.bench(t)}, &saga{bench: x.bench(t)}
			a.hopes, b.hopes = expect(a.plain), expect(b.plain)
			for range 120 {
				if a.step(t, &one) != b.step(t, &other) || a.disk.Bytes() != b.disk.Bytes() || a.disk.Pending() != b.disk.Pending() {
					t.Fatal("two stores, with the same calls, are not the same")
				}
				if a.invalid {
					break
				}
			}
		}
	}
}

// What ends a call is told from a mistake of the program's: that is not hidden.
func TestAttempt(t *testing.T) {
	if err := attempt(func() {}); err != api.OK {
		t.Errorf("no fault: %d", err)
	}
	if err := attempt(func() { need(api.ErrSpace) }); err != api.ErrSpace {
		t.Errorf("a fault: %d", err)
	}
	defer func() {
		if recover() != "a mistake" {
			t.Error("a mistake is hidden")
		}
	}()
	attempt(func() { panic("a mistake") })
}
