package volume

import (
	"fmt"
	"testing"

	"oakum/api"
)

// numbers are from a fixed rule.
type numbers uint64

func (r *numbers) below(n int) int {
	x := uint64(*r)
	x ^= x << 13
	x ^= x >> 7
	x ^= x << 17
	*r = numbers(x)
	return int(x>>20) % n
}

// anyCommand is one, that is refused more or less often.
func (x site) anyCommand(r *numbers) api.Command {
	id := r.below(7)
	switch r.below(24) {
	case 0, 1, 2:
		return creating(r.below(2*x.chunks()+3) - 1)
	case 3, 4:
		return deleting(id)
	case 5, 6:
		return merging(id)
	case 7, 8, 9:
		return stepping()
	case 10:
		return reading(id, r.below(x.origin), r.below(x.origin))
	case 11:
		return api.Command{Op: "none", ID: id}
	case 12, 13, 14:
		id = 0
	}
	at := r.below(x.origin)
	return writing(id, at, sectorsOf(fmt.Sprint("w", r.below(10000)), r.below(min(x.origin-at, 7)+1)))
}

// P18.1, T1: many commands in no order, each held against a volume that keeps whole copies.
func TestManyCommands(t *testing.T) {
	for i, x := range sites() {
		r := numbers(i + 77)
		b := x.bench(t, x.filling(0, "a"))
		merges := 0
		for k := range 1500 {
			goesOn := b.merging != 0
			b.do(t, x.anyCommand(&r))
			if b.merging != 0 && !goesOn {
				merges++
			}
			if k%10 == 0 {
				b.volume = mustOpen(t, b.disk)
			}
		}
		if merges < 10 {
			t.Errorf("of %v: only %d merges", x, merges)
		}
	}
}

// P2: the same commands on two volumes tell the same, and leave the same on their disks.
func TestTwins(t *testing.T) {
	for i, x := range sites() {
		r := numbers(i + 55)
		b, twin := x.bench(t, x.crowd()...), x.bench(t, x.crowd()...)
		for range 300 {
			c := x.anyCommand(&r)
			got, err := b.volume.Do(c)
			if also, alsoErr := twin.volume.Do(c); !same(got, also) || err != alsoErr {
				t.Fatalf("%s of %v = %q, %v, %d, and %q, %v, %d", short(c), x, got.Data, got.N, err, also.Data, also.N, alsoErr)
			}
		}
		checkDisks(t, b.disk, twin.disk)
	}
}

// P18.2, T2: many commands, in each of which the power fails somewhere, or not at all, and then again, somewhere or not at all,
// each time the disk is opened.
func TestAcknowledgedAgainAndAgain(t *testing.T) {
	for i, x := range sites() {
		for seed := range 6 {
			r := numbers(i*100 + seed + 99)
			b := x.bench(t, x.filling(0, "a"))
			failed := 0
			for range 500 {
				c := x.anyCommand(&r)
				if b.failsSomewhere(t, &r, c) {
					failed++
				}
			}
			b.check(t)
			if failed < 30 {
				t.Errorf("of %v: only %d failures", x, failed)
			}
		}
	}
}

// failsSomewhere does a command in which the power fails somewhere, or not at all, and opens the disk again; it tells whether
// the power failed.
func (b *bench) failsSomewhere(t testing.TB, r *numbers, c api.Command) bool {
	t.Helper()
	behind := b.plain.clone()
	want, wantErr := behind.do(c)
	b.disk.Fail(r.below(1 + r.below(30)))
	got, err := b.volume.Do(c)
	if err == api.ErrCrash {
		want, wantErr = api.Reply{}, err
	}
	if !same(got, want) || err != wantErr {
		t.Fatalf("%s of %v = %q, %v, %d, want %q, %v, %d", short(c), b.site, got.Data, got.N, err, want.Data, want.N, wantErr)
	}
	b.openAgain(t, r)
	if err != api.ErrCrash {
		b.plain = behind
		checkVolume(t, b.volume, b.plain)
		return false
	}
	p := b.found(t, b.disk, b.volume)
	p.between(t, c, b.plain, behind)
	b.plain = p
	return true
}

// openAgain lets the power be taken away, and opens the disk; that may need some times.
func (b *bench) openAgain(t testing.TB, r *numbers) {
	t.Helper()
	for {
		keep := make([]bool, b.disk.Pending())
		for k := range keep {
			keep[k] = r.below(2) == 0
		}
		b.disk.Restart(keep...)
		b.disk.Fail(r.below(4))
		v, err := Open(b.disk)
		if err == api.OK {
			b.disk.Fail(-1)
			b.volume = v
			return
		}
		if v != nil || err != api.ErrCrash {
			t.Fatalf("Open = %v, %d", v, err)
		}
	}
}

// T3: a snapshot with room for all chunks never gets invalid, whatever else is done, and however often the power fails.
func TestNeverInvalid(t *testing.T) {
	for i, x := range sites() {
		r := numbers(i + 11)
		b := x.bench(t, x.filling(0, "a"), creating(x.chunks()))
		for range 400 {
			c := x.anyCommand(&r)
			if c.ID == 1 && (c.Op == "delete" || c.Op == "merge") {
				continue
			}
			b.failsSomewhere(t, &r, c)
			if b.volume.Engine().Store(1).Invalid() {
				t.Fatalf("%s of %v: it is invalid", short(c), x)
			}
		}
	}
}

// T4: from the beginning on the origin reads what the snapshot did, and so it does whenever the power fails in a step; as many
// steps as exceptions are left, at most, end it.
func TestMergedWhateverFails(t *testing.T) {
	for i, x := range sites() {
		for seed := range 10 {
			r := numbers(i*100 + seed + 3)
			b := x.bench(t, x.filling(0, "a"), creating(x.chunks()), creating(1))
			for range 1 + r.below(12) {
				tells(t, b.volume, b.plain, writing(r.below(3), r.below(x.origin), sectorOf("b", r.below(1000))))
			}
			want, err := b.volume.Do(reading(1, 0, x.origin))
			if err != api.OK {
				t.Fatal(err)
			}
			b.mustDo(t, merging(1))
			steps := b.left()
			for b.merging != 0 {
				left := b.left()
				if !b.failsSomewhere(t, &r, stepping()) {
					steps--
				}
				if steps < b.left() || left < b.left() {
					t.Fatalf("of %v: %d left, ahead of that %d, and %d steps", x, b.left(), left, steps)
				}
				if got, err := b.volume.Do(reading(0, 0, x.origin)); got.Data != want.Data || err != api.OK {
					t.Fatalf("of %v: the origin reads %q, %d, want %q", x, got.Data, err, want.Data)
				}
			}
		}
	}
}
