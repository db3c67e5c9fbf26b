package dump

import (
	"fmt"
	"math/rand"
	"slices"
	"strings"
	"testing"

	"oakum/api"
	"oakum/check"
	"oakum/disk"
	"oakum/volume"
)

// What stands on a disk may be dumped, always: each report that check tells of one.

// made is a volume on a new disk.
func made(t testing.TB, s api.Super) (*disk.Disk, *volume.Volume) {
	t.Helper()
	d := disk.New(s.Sectors)
	v, err := volume.Format(d, s)
	if err != api.OK {
		t.Fatal(s, err)
	}
	return d, v
}

// checkDisk holds that what stands on a disk is dumped, and parsed from that.
func checkDisk(t testing.TB, what string, d *disk.Disk) []string {
	t.Helper()
	r, sector, err := check.Bytes(d.Bytes())
	if err != api.OK {
		t.Fatalf("%s: sector %d, error %d", what, sector, err)
	}
	if err := checkLines(t, what, r); err != api.OK {
		t.Fatalf("%s: error %d", what, err)
	}
	l, _ := Lines(r)
	return l
}

func TestDumpOfADisk(t *testing.T) {
	d, v := made(t, api.Super{Sectors: 60, Origin: 8, Chunk: 2})
	want := []string{"disk 60 origin 8 chunk 2"}
	if l := checkDisk(t, "new", d); !slices.Equal(l, want) {
		t.Errorf("%q, want %q", l, want)
	}
	sector := strings.Repeat("a", api.Sector)
	for _, c := range []api.Command{
		{Op: "create", N: 4}, {Op: "write", At: 6, Data: sector}, {Op: "create", N: 1}, {Op: "write", At: 1, Data: sector + sector}, {Op: "merge", ID: 1},
	} {
		if _, err := v.Do(c); err != api.OK {
			t.Fatal(c, err)
		}
	}
	l := checkDisk(t, "written", d)
	told, err := Parse(l...)
	if err != api.OK || len(told.Lines) != 2 || told.Lines[0].Slot.State != api.Merging || !told.Lines[1].Invalid {
		t.Fatalf("%q, error %d", l, err)
	}
	// The chunks 0, 1 and 3 were saved in the order of the writes.
	want = []string{
		"disk 60 origin 8 chunk 2", fmt.Sprintf("slot 1 merging 25 10 gen %d room 4", told.Lines[0].Slot.Gen), "entry 0 1", "entry 1 2", "entry 3 0",
		fmt.Sprintf("slot 2 used 35 4 gen %d room 1 invalid", told.Lines[1].Slot.Gen),
	}
	if !slices.Equal(l, want) {
		t.Errorf("%q, want %q", l, want)
	}
}

// Behind any commands, and failures of the power.
func TestDumpsOfManyDisks(t *testing.T) {
	supers := []api.Super{{Sectors: 60, Origin: 8, Chunk: 2}, {Sectors: 200, Origin: 30, Chunk: 1}, {Sectors: 300, Origin: 25, Chunk: 4}, {Sectors: 18, Origin: 1, Chunk: 1}}
	for seed := range int64(40) {
		r := rand.New(rand.NewSource(seed))
		s := supers[seed%4]
		d, v := made(t, s)
		for k := range 60 {
			if r.Intn(6) == 0 {
				d.Fail(r.Intn(6))
			}
			c := api.Command{Op: []string{"create", "write", "write", "write", "merge", "step", "delete"}[r.Intn(7)]}
			switch c.Op {
			case "create":
				c.N = 1 + r.Intn(20)
			case "write":
				c.ID, c.At, c.Data = r.Intn(4), r.Intn(s.Origin), strings.Repeat("b", api.Sector*(1+r.Intn(3)))
			case "merge", "delete":
				c.ID = 1 + r.Intn(4)
			}
			if _, err := v.Do(c); err == api.ErrCrash {
				d.Restart(r.Intn(2) == 0, r.Intn(2) == 0, r.Intn(2) == 0)
				if v, err = volume.Open(d); err != api.OK {
					t.Fatalf("seed %d, %d: %d", seed, k, err)
				}
			}
			checkDisk(t, fmt.Sprint("seed ", seed, ", ", k, ", ", c.Op), d)
		}
	}
}
