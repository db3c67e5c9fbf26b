package merge

import (
	"fmt"
	"slices"
	"strings"
	"testing"

	"oakum/api"
	"oakum/snap"
)

// numbers are from a fixed rule.
type numbers uint64

func (r *numbers) below(n int) int {
	x := uint64(*r)
	x ^= x << 13
	x ^= x >> 7
	x ^= x << 17
	*r = numbers(x)
	return int(x>>20) % n
}

// anyCall is one, that is refused more or less often.
func (x site) anyCall(r *numbers) call {
	id := r.below(6)
	switch r.below(24) {
	case 0, 1, 2:
		return creating(r.below(x.chunks()+2) - 1)
	case 3:
		return deleting(id)
	case 4, 5:
		return beginning(id)
	case 6, 7, 8, 9:
		return stepping()
	case 10:
		return finishing()
	case 11, 12, 13, 14:
		id = 0
	}
	at := r.below(x.origin)
	return writing(id, at, sectorsOf(fmt.Sprint("w", r.below(10000)), r.below(min(x.origin-at, 7)+1)))
}

// P17.1, P2: many calls in no order, on engines of two disks.
func TestManyCalls(t *testing.T) {
	for i, x := range sites() {
		r := numbers(i + 77)
		b, twin := x.bench(t, x.filling(0, "a")), x.bench(t, x.filling(0, "a"))
		for k := range 600 {
			c := x.anyCall(&r)
			if c.op == "begin" || c.op == "step" || c.op == "finish" {
				b.do(t, c)
			} else {
				b.tells(t, c)
			}
			c.on(twin.engine)
			if k%25 == 0 {
				b.check(t)
				checkDisks(t, twin.disk, b.disk)
				b.engine = mustOpen(t, b.disk)
			}
		}
	}
}

// P17.4: many calls, of which each of this chapter's own fails somewhere, or not at all.
func TestManyFailures(t *testing.T) {
	for i, x := range sites() {
		r := numbers(i + 99)
		b := x.bench(t, x.filling(0, "a"))
		for range 700 {
			c := x.anyCall(&r)
			if c.op == "begin" || c.op == "step" || c.op == "finish" {
				b.failsSomewhere(t, &r, c)
			} else {
				b.tells(t, c)
			}
		}
		b.check(t)
	}
}

// P17.2: what is read.

// ideal is a volume that keeps for each snapshot all that it reads, and which chunks needed a place since it was created.
type ideal struct {
	site
	reads   []string
	copies  map[int][]string
	needed  map[int]map[int]bool
	rooms   map[int]int
	merging int
	left    map[int]bool // of the snapshot that is Merging: the chunks that aren't moved yet
}

func (x site) ideal(reads string) *ideal {
	v := &ideal{site: x, copies: map[int][]string{}, needed: map[int]map[int]bool{}, rooms: map[int]int{}}
	for i := range x.origin {
		v.reads = append(v.reads, reads[i*sectorSize:][:sectorSize])
	}
	return v
}

// valid tells whether no more chunks needed a place than there is room for.
func (v *ideal) valid(id int) bool { return len(v.needed[id]) <= v.rooms[id] }

// did takes over what a call did that is not refused; a write of a snapshot that gets invalid is, too, but not for this.
func (v *ideal) did(c call, n int) {
	switch c.op {
	case "create":
		v.copies[n], v.needed[n], v.rooms[n] = slices.Clone(v.reads), map[int]bool{}, c.at
	case "delete":
		delete(v.copies, c.id)
	case "begin":
		v.reads, v.left = v.copies[c.id], v.needed[c.id]
		delete(v.copies, c.id)
		if len(v.left) > 0 {
			v.merging = c.id
		}
	case "step":
		v.step()
	case "write":
		v.wrote(c)
	}
}

// step lets other snapshots need places for the first chunks that aren't moved yet, side by side, eight at most.
func (v *ideal) step() {
	first := 0
	for !v.left[first] {
		first++
	}
	for c := first; v.left[c] && c < first+8; c++ {
		v.need(c)
		delete(v.left, c)
	}
	if len(v.left) == 0 {
		v.merging = 0
	}
}

func (v *ideal) wrote(c call) {
	for i, th := range written(c.at, c.data) {
		at, chunk := c.at+i, (c.at+i)/v.chunk
		switch {
		case c.id != 0:
			v.copies[c.id][at] = th.data
			v.needed[c.id][chunk] = true
		case v.merging != 0 && v.left[chunk]:
			v.reads[at] = th.data
		default:
			v.reads[at] = th.data
			v.need(chunk)
		}
	}
}

// need lets each snapshot need a place for a chunk.
func (v *ideal) need(c int) {
	for id := range v.copies {
		v.needed[id][c] = true
	}
}

func (v *ideal) check(t testing.TB, e *snap.Engine) {
	t.Helper()
	if s, err := e.Read(0, 0, v.origin); s != strings.Join(v.reads, "") || err != api.OK {
		t.Fatalf("the origin of %v reads %q, %d, want %q", v.site, s, err, v.reads)
	}
	if n := len(e.IDs()); n != len(v.copies) && !(v.merging != 0 && n == len(v.copies)+1) || e.Merging() != v.merging {
		t.Fatalf("%v, merging %d, want %v, %d", e.IDs(), e.Merging(), v.copies, v.merging)
	}
	if v.merging != 0 && Left(e) != len(v.left) {
		t.Fatalf("%d left, want %d", Left(e), len(v.left))
	}
	for id, reads := range v.copies {
		s, err := e.Read(id, 0, v.origin)
		switch {
		case !v.valid(id) && (s != "" || err != api.ErrInvalid):
			t.Fatalf("snapshot %d of %v reads %q, %d, but there were %v, in room for %d", id, v.site, s, err, v.needed[id], v.rooms[id])
		case v.valid(id) && (s != strings.Join(reads, "") || err != api.OK):
			t.Fatalf("snapshot %d of %v reads %q, %d, want %q", id, v.site, s, err, reads)
		}
	}
}

// From Begin on the origin reads what the snapshot did, but for what is written to it; each other one reads what it did, or
// is invalid, just if more chunks needed a place than it has room for.
func TestWhatIsRead(t *testing.T) {
	for i, x := range sites() {
		merges := 0
		for seed := range 20 {
			r := numbers(i*100 + seed + 5)
			b := x.bench(t, x.filling(0, "a"))
			v := x.ideal(sectorsOf("a", x.origin))
			for k := range 200 {
				c := x.anyCall(&r)
				n, err := c.on(b.engine)
				if err == api.OK || err == api.ErrInvalid && c.op == "write" && v.valid(c.id) {
					v.did(c, n)
				}
				if c.op == "begin" && v.merging != 0 && err == api.OK {
					merges++
				}
				v.check(t, b.engine)
				if k%10 == 0 {
					b.engine = mustOpen(t, b.disk)
					v.check(t, b.engine)
				}
			}
		}
		if merges < 20 {
			t.Errorf("of %v: only %d merges", x, merges)
		}
	}
}

// While a merge goes on the origin is written: chunks that are still to be moved, that are moved already, and that the
// snapshot never had. Each is read, and stays so to the end; a snapshot of what the origin read ahead of that reads it.
func TestWritesWhileAMergeGoesOn(t *testing.T) {
	x := single()
	for _, when := range []int{0, 1, 2, 3} {
		b := x.bench(t, x.filling(0, "a"), creating(20), creating(20))
		b.mustDo(t, writing(1, 2, sectorsOf("b", 3)), writing(1, 9, sectorsOf("b", 4)), writing(1, 17, sectorsOf("b", 2)))
		b.do(t, beginning(1))
		for range when {
			b.do(t, stepping())
		}
		b.mustDo(t, writing(0, 1, sectorsOf("w", 3)), writing(0, 10, sectorsOf("x", 1)), writing(0, 16, sectorsOf("y", 3)))
		want := sectorOf("a", 0) + sectorsOf("w", 3) + sectorOf("b", 2)
		for at := 5; at < 20; at++ {
			switch {
			case at == 10:
				want += sectorOf("x", 0)
			case at >= 16 && at <= 18:
				want += sectorOf("y", at-16)
			case at == 9 || at == 11 || at == 12:
				want += sectorOf("b", at-9)
			default:
				want += sectorOf("a", at)
			}
		}
		for {
			if s, err := b.engine.Read(0, 0, 20); s != want || err != api.OK {
				t.Fatalf("behind %d Steps the origin reads %q, %d, want %q", when, s, err, want)
			}
			if s, err := b.engine.Read(2, 0, 20); s != sectorsOf("a", 20) || err != api.OK {
				t.Fatalf("behind %d Steps the other one reads %q, %d", when, s, err)
			}
			if b.merging() == 0 {
				break
			}
			b.do(t, stepping())
		}
		if s, err := b.engine.Origin().Read(0, 20); s != want || err != api.OK {
			t.Errorf("%q stands, %d, want %q", s, err, want)
		}
	}
}

// P17.3: to the end. As many Steps as exceptions are left, at most, end it; each moves one at least.
func TestToTheEnd(t *testing.T) {
	for i, x := range append(sites(), site{300, 60, 1}) {
		for seed := range 20 {
			r := numbers(i*100 + seed + 9)
			b := x.bench(t, x.filling(0, "a"), creating(x.chunks()))
			for range 1 + r.below(2*x.chunks()) {
				b.mustDo(t, writing(r.below(2), r.below(x.origin), sectorOf("b", r.below(1000))))
			}
			b.mustDo(t, beginning(1))
			left := Left(b.engine)
			for steps := left; steps > 0 && b.engine.Merging() != 0; steps-- {
				n, err := Step(b.engine)
				if n >= left || n < left-8 || n != Left(b.engine) || err != api.OK {
					t.Fatalf("of %v: Step = %d, %d, behind %d", x, n, err, left)
				}
				left = n
				if r.below(3) == 0 {
					b.engine = mustOpen(t, b.disk)
				}
			}
			if b.engine.Merging() != 0 || len(b.engine.IDs()) != 0 {
				t.Errorf("of %v: it goes on, %d left", x, left)
			}
		}
	}
}

// As many as can be: each second chunk has an exception, so that each Step moves one.
func TestAsManySteps(t *testing.T) {
	x := site{700, 200, 1}
	b := x.bench(t, x.filling(0, "a"), creating(100))
	for c := 199; c > 0; c -= 2 {
		b.mustDo(t, writing(1, c, sectorOf("b", c)))
	}
	b.mustDo(t, beginning(1))
	for want := 99; want >= 0; want-- {
		if n, err := Step(b.engine); n != want || err != api.OK {
			t.Fatalf("Step = %d, %d, want %d", n, err, want)
		}
	}
	if b.engine.Merging() != 0 {
		t.Error("it goes on")
	}
}
