package snap

import (
	"fmt"
	"slices"
	"strings"
	"testing"

	"oakum/api"
)

// numbers are from a fixed rule.
type numbers uint64

func (r *numbers) below(n int) int {
	x := uint64(*r)
	x ^= x << 13
	x ^= x >> 7
	x ^= x << 17
	*r = numbers(x)
	return int(x>>20) % n
}

// anyCall is one, that is refused more or less often.
func (x site) anyCall(r *numbers, merges bool) call {
	id := r.below(6)
	switch r.below(20) {
	case 0, 1, 2:
		return creating(r.below(x.chunks()+3) - 1)
	case 3, 4:
		return deleting(id)
	case 5, 6:
		if merges {
			return marking(id, api.State(r.below(5)-1))
		}
		return marking(id, api.Used)
	case 7, 8:
		return saving(r.below(x.chunks()+2) - 1)
	case 9:
		return writing(id, r.below(x.origin), sectorOf("x")[:r.below(sectorSize)])
	case 10, 11, 12, 13:
		id = 0
	}
	at := r.below(x.origin+2) - 1
	return writing(id, at, sectorsOf(fmt.Sprint("w", r.below(10000)), r.below(min(x.origin-max(at, 0)+2, 8))))
}

// P16.1, P2: many calls in no order, on engines of two disks, with failures among them.
func TestManyCalls(t *testing.T) {
	for i, x := range sites() {
		r := numbers(i + 77)
		b := x.bench(t, x.filling(0, "a"))
		twin := x.bench(t, x.filling(0, "a"))
		for k := range 300 {
			c := x.anyCall(&r, true)
			if s := b.snap(c.id); s != nil && s.invalid && c.state == api.Merging {
				continue // behind it the disk can't be opened
			}
			if k%3 == 0 {
				b.do(t, c)
			} else {
				_, want, wantErr := c.onPlain(b.plain)
				if id, err := c.on(b.engine); id != want || err != wantErr {
					t.Fatalf("%v of %v = %d, %d, want %d, %d", c, x, id, err, want, wantErr)
				}
			}
			c.on(twin.engine)
			if k%25 == 0 {
				b.check(t)
				checkDisks(t, twin.disk, b.disk)
				b.engine = mustOpen(t, b.disk)
			}
		}
	}
}

// P16.3: many calls, of which each one fails somewhere, or not at all.
func TestManyFailures(t *testing.T) {
	for i, x := range sites() {
		r := numbers(i + 99)
		b := x.bench(t, x.filling(0, "a"))
		for range 400 {
			c := x.anyCall(&r, true)
			if s := b.snap(c.id); s != nil && s.invalid && c.state == api.Merging {
				continue
			}
			behind := b.plain.clone()
			_, _, wantErr := c.onPlain(behind)
			b.disk.Fail(r.below(30))
			_, err := c.on(b.engine)
			if err != api.ErrCrash && err != wantErr {
				t.Fatalf("%v of %v = %d, want %d", c, x, err, wantErr)
			}
			ahead := b.plain
			if err != api.ErrCrash {
				ahead = behind
			}
			keep := make([]bool, b.disk.Pending())
			for k := range keep {
				keep[k] = r.below(2) == 0
			}
			b.disk.Restart(keep...)
			b.plain = x.found(t, b.disk)
			b.plain.between(t, c, ahead, behind)
			b.engine = mustOpen(t, b.disk)
		}
	}
}

// P16.2: kept.

// ideal is a volume that keeps for each snapshot all that the origin read when it was created, and which chunks needed a
// place since.
type ideal struct {
	site
	reads  []string
	copies map[int][]string
	needed map[int]map[int]bool
	rooms  map[int]int
}

func (x site) ideal(reads string) *ideal {
	v := &ideal{site: x, copies: map[int][]string{}, needed: map[int]map[int]bool{}, rooms: map[int]int{}}
	for i := range x.origin {
		v.reads = append(v.reads, reads[i*sectorSize:][:sectorSize])
	}
	return v
}

// valid tells whether no more chunks needed a place than there is room for.
func (v *ideal) valid(id int) bool { return len(v.needed[id]) <= v.rooms[id] }

// did takes over what a call did that is not refused; a write of a snapshot that gets invalid is, too, but not for this.
func (v *ideal) did(c call, id int) {
	switch {
	case c.op == "create":
		v.copies[id], v.needed[id], v.rooms[id] = slices.Clone(v.reads), map[int]bool{}, c.at
	case c.op == "delete":
		delete(v.copies, c.id)
	case c.op == "save":
		v.need(c.at)
	case c.op == "write" && c.id == 0:
		for i, th := range written(c.at, c.data) {
			v.reads[c.at+i] = th.data
			v.need((c.at + i) / v.chunk)
		}
	case c.op == "write":
		for i, th := range written(c.at, c.data) {
			v.copies[c.id][c.at+i] = th.data
			v.needed[c.id][(c.at+i)/v.chunk] = true
		}
	}
}

// need lets each snapshot need a place for a chunk.
func (v *ideal) need(c int) {
	for id := range v.copies {
		v.needed[id][c] = true
	}
}

func (v *ideal) check(t testing.TB, e *Engine) {
	t.Helper()
	if s, err := e.Read(0, 0, v.origin); s != strings.Join(v.reads, "") || err != api.OK {
		t.Fatalf("the origin of %v reads %q, %d, want %q", v.site, s, err, v.reads)
	}
	if len(e.IDs()) != len(v.copies) {
		t.Fatalf("%v, want %v", e.IDs(), v.copies)
	}
	for id, reads := range v.copies {
		s, err := e.Read(id, 0, v.origin)
		switch {
		case !v.valid(id) && (s != "" || err != api.ErrInvalid):
			t.Fatalf("snapshot %d of %v reads %q, %d, but there were %v, in room for %d", id, v.site, s, err, v.needed[id], v.rooms[id])
		case v.valid(id) && (s != strings.Join(reads, "") || err != api.OK):
			t.Fatalf("snapshot %d of %v reads %q, %d, want %q", id, v.site, s, err, reads)
		}
	}
}

// Each snapshot reads what the origin read when it was created, but for what was written to it, as long as there is room
// for all chunks that needed a place: not a chunk longer, and not a chunk shorter.
func TestKept(t *testing.T) {
	for i, x := range sites() {
		for seed := range 12 {
			r := numbers(i*100 + seed + 5)
			b := x.bench(t, x.filling(0, "a"))
			v := x.ideal(sectorsOf("a", x.origin))
			for k := range 120 {
				c := x.anyCall(&r, false)
				id, err := c.on(b.engine)
				if err == api.OK || err == api.ErrInvalid && v.valid(c.id) {
					v.did(c, id)
				}
				v.check(t, b.engine)
				if k%10 == 0 {
					b.engine = mustOpen(t, b.disk)
					v.check(t, b.engine)
				}
			}
		}
	}
}

// A snapshot with room for all chunks never gets invalid; one with room for one fewer does with the last chunk.
func TestKeptToTheLastPlace(t *testing.T) {
	for _, x := range sites() {
		if x.chunks() == 1 {
			continue
		}
		b := x.bench(t, x.filling(0, "a"), creating(x.chunks()), creating(x.chunks()-1))
		for c := range x.chunks() {
			if b.engine.Store(2).Invalid() {
				t.Errorf("of %v: invalid ahead of chunk %d of %d", x, c, x.chunks())
			}
			b.mustDo(t, writing(0, c*x.chunk, sectorOf("b")))
			b.mustDo(t, writing(0, c*x.chunk, sectorOf("c")))
		}
		if s, err := b.engine.Read(1, 0, x.origin); s != sectorsOf("a", x.origin) || err != api.OK {
			t.Errorf("of %v: %q, %d", x, s, err)
		}
		if _, err := b.engine.Read(2, 0, x.origin); err != api.ErrInvalid {
			t.Errorf("of %v: %d, want ErrInvalid", x, err)
		}
		b.do(t, deleting(2))
		if _, err := b.engine.Read(2, 0, x.origin); err != api.ErrNone {
			t.Errorf("of %v: %d, want ErrNone", x, err)
		}
	}
}
