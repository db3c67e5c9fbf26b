package check

import (
	"fmt"
	"math/rand"
	"slices"
	"strings"
	"testing"

	"oakum/api"
	"oakum/disk"
	"oakum/merge"
	"oakum/snap"
	"oakum/volume"
)

// P19.2, T5: behind any calls nothing is wrong, whatever failed in the last one.

// checkSound holds that nothing is wrong with what stands on a disk, and that the report has what the engine tells.
func checkSound(t testing.TB, what string, d *disk.Disk) {
	t.Helper()
	if f := checkJust(t, what, d.Bytes()); f != sound {
		t.Fatalf("%s: sector %d, error %d", what, f.sector, f.err)
	}
}

// keeps are ways to keep some of so many writes: all ways of a few; of more each alone, all but each, and each first ones.
func keeps(n int) [][]bool {
	l := [][]bool{make([]bool, n)}
	for i := range n {
		alone, but, first := make([]bool, n), make([]bool, n), make([]bool, n)
		for k := range n {
			alone[k], but[k], first[k] = k == i, k != i, k <= i
		}
		l = append(l, alone, but, first)
	}
	if n > 4 {
		return l
	}
	l = nil
	for ways := range 1 << n {
		keep := make([]bool, n)
		for k := range n {
			keep[k] = ways>>k%2 == 1
		}
		l = append(l, keep)
	}
	return l
}

// call is one of the engine, or of its merges, or of its volume.
type call struct {
	name string
	do   func(e *snap.Engine, v *volume.Volume) api.Errno
}

func supers() []api.Super {
	return []api.Super{
		{Sectors: 120, Origin: 8, Chunk: 2}, {Sectors: 100, Origin: 7, Chunk: 2}, {Sectors: 200, Origin: 20, Chunk: 1}, {Sectors: 160, Origin: 11, Chunk: 4},
		{Sectors: 80, Origin: 3, Chunk: 5}, {Sectors: 90, Origin: 4, Chunk: 1}, {Sectors: 28, Origin: 10, Chunk: 3},
	}
}

// caller makes calls in no order.
type caller struct {
	*rand.Rand
	parted api.Super
}

func (r caller) chunks() int { return (r.parted.Origin + r.parted.Chunk - 1) / r.parted.Chunk }

// data is some sectors from one on.
func (r caller) data(at int) string {
	var s strings.Builder
	for range r.Intn(min(r.parted.Origin-at, 7) + 1) {
		s.WriteString(junk(fmt.Sprint("w", r.Intn(10000))))
	}
	return s.String()
}

// ofVolume is a command of a volume.
func (r caller) ofVolume() call {
	at := r.Intn(r.parted.Origin)
	c := api.Command{ID: r.Intn(7)}
	switch r.Intn(12) {
	case 0, 1:
		c.Op, c.N = "create", r.Intn(2*r.chunks()+3)-1
	case 2:
		c.Op = "delete"
	case 3:
		c.Op = "merge"
	case 4, 5:
		c.Op = "step"
	case 6, 7:
		c = api.Command{Op: "write", At: at, Data: r.data(at)}
	case 8:
		c.Op, c.N = "read", r.parted.Origin
	default:
		c.Op, c.At, c.Data = "write", at, r.data(at)
	}
	return call{fmt.Sprint(c.Op, " ", c.ID, " ", c.At, " ", c.N, " ", len(c.Data)), func(_ *snap.Engine, v *volume.Volume) api.Errno {
		_, err := v.Do(c)
		return err
	}}
}

// ofEngine is a call of an engine, or of its merges. One that is invalid is not marked Merging: that alone makes a disk that can't
// be opened.
func (r caller) ofEngine() call {
	id, chunk, at, chunks := r.Intn(7), r.Intn(r.chunks()+2)-1, r.Intn(r.parted.Origin), 1+r.Intn(r.chunks()+1)
	data, state := r.data(at), api.State(r.Intn(5)-1)
	switch r.Intn(12) {
	case 0, 1:
		return call{fmt.Sprint("Create ", chunks), func(e *snap.Engine, _ *volume.Volume) api.Errno {
			_, err := e.Create(chunks)
			return err
		}}
	case 2, 3:
		return call{fmt.Sprint("Mark ", id, " ", state), func(e *snap.Engine, _ *volume.Volume) api.Errno {
			if state == api.Merging && e.Store(id).Invalid() {
				return api.OK
			}
			return e.Mark(id, state)
		}}
	case 4:
		return call{fmt.Sprint("Delete ", id), func(e *snap.Engine, _ *volume.Volume) api.Errno { return e.Delete(id) }}
	case 5, 6:
		return call{fmt.Sprint("Save ", chunk), func(e *snap.Engine, _ *volume.Volume) api.Errno { return e.Save(chunk) }}
	case 7:
		return call{fmt.Sprint("Begin ", id), func(e *snap.Engine, _ *volume.Volume) api.Errno { return merge.Begin(e, id) }}
	case 8:
		return call{"Step", func(e *snap.Engine, _ *volume.Volume) api.Errno {
			_, err := merge.Step(e)
			return err
		}}
	case 9:
		return call{"Finish", func(e *snap.Engine, _ *volume.Volume) api.Errno { return merge.Finish(e) }}
	}
	return call{fmt.Sprint("Write ", id, " ", at, " ", len(data)), func(e *snap.Engine, _ *volume.Volume) api.Errno { return e.Write(id, at, data) }}
}

// formatted is a disk without snapshots, whose origin has what is nothing's.
func formatted(t testing.TB, x api.Super) *disk.Disk {
	t.Helper()
	d := disk.Load(string(bytesOf(x)))
	if err := snap.Format(d, x); err != api.OK {
		t.Fatal(err)
	}
	return d
}

// opened is a disk's engine, that of its volume or one without. A volume's Open ends a merge without exceptions; an engine's does
// not, so that such a merge stands there, too.
func opened(t testing.TB, d *disk.Disk, byVolume bool) (*snap.Engine, *volume.Volume) {
	t.Helper()
	if byVolume {
		v, err := volume.Open(d)
		if err != api.OK {
			t.Fatal(err)
		}
		return v.Engine(), v
	}
	e, err := snap.Open(d)
	if err != api.OK {
		t.Fatal(err)
	}
	return e, nil
}

// checkFailures lets the power fail at each thing of a call, and behind the last one; whatever is kept then, nothing is wrong,
// also while the volume is opened, and the power fails again.
func checkFailures(t testing.TB, d *disk.Disk, c call, byVolume bool) {
	t.Helper()
	for fuse := 0; ; fuse++ {
		failed := d.Clone()
		e, v := opened(t, failed, byVolume)
		failed.Fail(fuse)
		err := c.do(e, v)
		what := fmt.Sprint(c.name, ", fuse ", fuse)
		checkSound(t, what, failed)
		for _, keep := range keeps(failed.Pending()) {
			again := failed.Clone()
			again.Restart(keep...)
			checkSound(t, fmt.Sprint(what, ", ", keep), again)
			checkOpening(t, fmt.Sprint(what, ", ", keep), again)
		}
		if err != api.ErrCrash {
			return
		}
	}
}

// checkOpening lets the power fail while a volume is opened, if that ends a merge.
func checkOpening(t testing.TB, what string, d *disk.Disk) {
	t.Helper()
	for fuse := range 2 {
		failed := d.Clone()
		failed.Fail(fuse)
		if _, err := volume.Open(failed); err == api.OK {
			return
		}
		for _, keep := range keeps(failed.Pending()) {
			again := failed.Clone()
			again.Restart(keep...)
			checkSound(t, fmt.Sprint(what, ", opened ", fuse, ", ", keep), again)
		}
	}
}

// seen counts what reports had.
type seen struct {
	several, merging, invalid, entries int
}

func (x *seen) count(d *disk.Disk) {
	r, _, _ := Bytes(d.Bytes())
	if len(r.Lines) > 1 {
		x.several++
	}
	for _, l := range r.Lines {
		if l.Slot.State == api.Merging {
			x.merging++
		}
		if l.Invalid {
			x.invalid++
		}
		if len(l.Entries) > 1 {
			x.entries++
		}
	}
}

// checkCalls does many calls, in each of which the power fails somewhere first, on a clone.
func checkCalls(t *testing.T, x api.Super, seed int64, byVolume bool) {
	d, all := formatted(t, x), seen{}
	r := caller{rand.New(rand.NewSource(seed)), x}
	e, v := opened(t, d, byVolume)
	for range 150 {
		c := r.ofEngine()
		if byVolume {
			c = r.ofVolume()
		}
		checkFailures(t, d, c, byVolume)
		c.do(e, v)
		report, _, _ := Bytes(d.Bytes())
		checkTold(t, c.name, report, e)
		all.count(d)
	}
	roomy, oneChunk := x.Sectors > 30, r.chunks() == 1
	if roomy && (all.several < 5 || all.merging < 2) || roomy && !oneChunk && (all.entries < 5 || all.invalid < 2) {
		t.Errorf("of %v: only %v is seen", x, all)
	}
}

func TestBehindCallsOfAVolume(t *testing.T) {
	for i, x := range supers() {
		t.Run(fmt.Sprint(x), func(t *testing.T) {
			t.Parallel()
			checkCalls(t, x, int64(i+1), true)
		})
	}
}

func TestBehindCallsOfAnEngine(t *testing.T) {
	for i, x := range supers() {
		t.Run(fmt.Sprint(x), func(t *testing.T) {
			t.Parallel()
			checkCalls(t, x, int64(i+100), false)
		})
	}
}

// A store's exceptions on several pages, of which some stand and others do not.
func TestBehindLongSteps(t *testing.T) {
	x := api.Super{Sectors: 300, Origin: 40, Chunk: 1}
	d := formatted(t, x)
	v, err := volume.Open(d)
	if err != api.OK {
		t.Fatal(err)
	}
	for _, c := range []api.Command{{Op: "create", N: 40}, {Op: "create", N: 20}, {Op: "create", N: 40}} {
		if _, err := v.Do(c); err != api.OK {
			t.Fatal(err)
		}
	}
	chunks := rand.New(rand.NewSource(2)).Perm(40)
	for _, c := range chunks[:25] {
		if _, err := v.Do(api.Command{Op: "write", ID: 1, At: c, Data: junk(fmt.Sprint(c))}); err != api.OK {
			t.Fatal(err)
		}
	}
	v.Do(api.Command{Op: "merge", ID: 1})
	step := call{"step", func(_ *snap.Engine, v *volume.Volume) api.Errno {
		_, err := v.Do(api.Command{Op: "step"})
		return err
	}}
	for steps := 0; v.Engine().Merging() != 0; steps++ {
		if steps == 25 {
			t.Fatal("the merge goes on")
		}
		checkFailures(t, d, step, true)
		if err := step.do(nil, v); err != api.OK {
			t.Fatal(err)
		}
	}
	r, _, _ := Bytes(d.Bytes())
	checkTold(t, "the merge's end", r, v.Engine())
	if len(r.Lines) != 2 || !r.Lines[0].Invalid || len(r.Lines[1].Entries) != 25 {
		t.Errorf("%v", r)
	}
}

// Behind a Format in which the power failed a disk that was formatted is sound; of any other one nothing is wrong just if it can
// be opened.
func TestWhateverFailsInFormat(t *testing.T) {
	for _, x := range supers()[:3] {
		for what, s := range map[string]string{"a crowd": string(crowd()) + strings.Repeat(junk("more"), 100), "nothing": strings.Repeat(junk("nothing"), 200)} {
			for fuse := range slotCount + 4 {
				d := disk.Load(s)
				d.Fail(fuse)
				snap.Format(d, x)
				for _, keep := range keeps(d.Pending()) {
					again := d.Clone()
					again.Restart(keep...)
					f := checkJust(t, fmt.Sprint(what, ", fuse ", fuse, ", ", keep), again.Bytes())
					stood := what == "a crowd" || fuse > slotCount+2 || fuse == slotCount+2 && slices.Contains(keep, true)
					if stood != (f == sound) {
						t.Fatalf("%s, fuse %d, %v: %v", what, fuse, keep, f)
					}
				}
			}
		}
	}
}

// One that is invalid, and is marked Merging all the same, is wrong: such a disk can't be opened.
func TestInvalidAndMerging(t *testing.T) {
	d := formatted(t, crowdSuper())
	e, _ := opened(t, d, false)
	for range 2 {
		if _, err := e.Create(1); err != api.OK {
			t.Fatal(err)
		}
	}
	e.Write(2, 0, junk("a"))
	if err := e.Write(2, 2, junk("b")); err != api.ErrInvalid {
		t.Fatal(err)
	}
	checkSound(t, "an invalid one", d)
	if err := e.Mark(2, api.Merging); err != api.OK {
		t.Fatal(err)
	}
	x, _ := e.Slot(2)
	if f := checkJust(t, "an invalid one that is Merging", d.Bytes()); f != (fault{x.Store.Start, api.ErrBusy}) {
		t.Errorf("%v", f)
	}
	if err := e.Mark(2, api.Used); err != api.OK {
		t.Fatal(err)
	}
	checkSound(t, "an invalid one that is Used again", d)
}
