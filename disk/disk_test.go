package disk

import (
	"math"
	"slices"
	"strings"
	"testing"

	"oakum/api"
)

// sectors has one for each letter, filled with it, and one of bytes 0 for a point. The second byte is the letter with
// all bits turned, so that bytes which are moved within a sector are seen.
func sectors(letters string) string {
	var b strings.Builder
	for _, letter := range []byte(letters) {
		if letter == '.' {
			b.WriteString(strings.Repeat("\x00", 64))
			continue
		}
		b.WriteByte(letter)
		b.WriteByte(letter ^ 0xff)
		b.WriteString(strings.Repeat(string([]byte{letter}), 62))
	}
	return b.String()
}

// letters is the text whose sectors these are; a question mark stands for each sector that is none of them.
func letters(s string) string {
	var b strings.Builder
	for len(s) >= 64 {
		letter := s[0]
		if letter == 0 {
			letter = '.'
		}
		if s[:64] != sectors(string([]byte{letter})) {
			letter = '?'
		}
		b.WriteByte(letter)
		s = s[64:]
	}
	return b.String() + strings.Repeat("?", len(s))
}

// readAll is what is read of all sectors.
func readAll(t *testing.T, d *Disk) string {
	t.Helper()
	s, err := d.Read(0, d.Sectors())
	if err != api.OK {
		t.Fatalf("Read of all sectors: %d", err)
	}
	return letters(s)
}

func checkStands(t *testing.T, d *Disk, want string) {
	t.Helper()
	if got := letters(d.Bytes()); got != want {
		t.Errorf("there stands %q, want %q", got, want)
	}
}

func checkReads(t *testing.T, d *Disk, want string) {
	t.Helper()
	if got := readAll(t, d); got != want {
		t.Errorf("%q is read, want %q", got, want)
	}
}

func checkPending(t *testing.T, d *Disk, want int) {
	t.Helper()
	if got := d.Pending(); got != want {
		t.Errorf("%d writes are pending, want %d", got, want)
	}
}

func checkDead(t *testing.T, d *Disk, want bool) {
	t.Helper()
	if got := d.Dead(); got != want {
		t.Errorf("Dead is %t, want %t", got, want)
	}
}

func checkWrite(t *testing.T, d *Disk, at int, data string, want api.Errno) {
	t.Helper()
	if got := d.Write(at, data); got != want {
		t.Errorf("Write of %d bytes at %d: %d, want %d", len(data), at, got, want)
	}
}

func checkFlush(t *testing.T, d *Disk, want api.Errno) {
	t.Helper()
	if got := d.Flush(); got != want {
		t.Errorf("Flush: %d, want %d", got, want)
	}
}

// dead is a disk on which "abcd" stands, and whose power failed with a write of the second sector and two of the third pending.
func dead(t *testing.T) *Disk {
	t.Helper()
	d := Load(sectors("abcd"))
	d.Fail(3)
	checkWrite(t, d, 1, sectors("xy"), api.OK)
	checkWrite(t, d, 2, sectors("zw"), api.ErrCrash)
	checkDead(t, d, true)
	checkPending(t, d, 3)
	return d
}

// P4.1, D1: New and Load.

func TestNew(t *testing.T) {
	for _, n := range []int{0, 1, 2, 3, 63, 64, 65, 1000, 1<<20 - 1, 1 << 20} {
		d := New(n)
		if d == nil {
			t.Errorf("New(%d) is nil", n)
			continue
		}
		if d.Sectors() != n || d.Pending() != 0 || d.Dead() {
			t.Errorf("New(%d) has %d sectors, %d writes pending, and Dead is %t", n, d.Sectors(), d.Pending(), d.Dead())
		}
		zeros := strings.Repeat("\x00", 64*n)
		if d.Bytes() != zeros {
			t.Errorf("New(%d): other bytes stand there", n)
		}
		if s, err := d.Read(0, n); s != zeros || err != api.OK {
			t.Errorf("New(%d): other bytes are read, %d", n, err)
		}
	}
}

// Among these are numbers that would do, if only their lowest bits were looked at, also when they are counted in bytes.
func TestNewOfTooManyOrTooFew(t *testing.T) {
	for _, n := range []int{math.MinInt, math.MinInt + 1, -1 << 58, -1 << 32, -1 << 20, -64, -1, 1<<20 + 1, 1 << 21, 1<<32 + 1, 1 << 58, 1<<58 + 1, math.MaxInt} {
		if New(n) != nil {
			t.Errorf("New(%d) is not nil", n)
		}
	}
}

func TestLoad(t *testing.T) {
	text := strings.Repeat("snapshots of a disk whose power may fail; ", 20)
	for _, c := range []struct{ length, want int }{
		{0, 0}, {1, 1}, {2, 1}, {63, 1}, {64, 1}, {65, 2}, {127, 2}, {128, 2}, {129, 3}, {640, 10}, {641, 11}, {703, 11},
	} {
		d := Load(text[:c.length])
		if d == nil || d.Sectors() != c.want || d.Pending() != 0 || d.Dead() {
			t.Errorf("Load of %d bytes has %d sectors, want %d", c.length, d.Sectors(), c.want)
			continue
		}
		whole := text[:c.length] + strings.Repeat("\x00", 64*c.want-c.length)
		if d.Bytes() != whole {
			t.Errorf("Load of %d bytes: %q stands there", c.length, d.Bytes())
		}
		if s, err := d.Read(0, c.want); s != whole || err != api.OK {
			t.Errorf("Load of %d bytes: %q is read, %d", c.length, s, err)
		}
	}
}

func TestLoadAtTheMost(t *testing.T) {
	whole := strings.Repeat("x", 64<<20)
	for _, length := range []int{64<<20 - 64, 64<<20 - 63, 64<<20 - 1, 64 << 20} {
		d := Load(whole[:length])
		want := (length + 63) / 64
		if d == nil || d.Sectors() != want || d.Bytes() != whole[:length]+strings.Repeat("\x00", 64*want-length) {
			t.Errorf("Load of %d bytes has %d sectors, want %d, or other bytes", length, d.Sectors(), want)
		}
	}
	for _, more := range []int{1, 63, 64, 65} {
		if Load(whole+strings.Repeat("\x00", more)) != nil {
			t.Errorf("Load of %d bytes is not nil", len(whole)+more)
		}
	}
}

// P4.1, D1: Read and Write.

// noPlaces are numbers of which neither a place, nor how many there are, can be one.
func noPlaces() []int {
	return []int{math.MinInt, math.MinInt + 1, -1 << 58, -1 << 32, -64, -2, -1, 6, 7, 64, 1 << 20, 1 << 32, 1 << 57, 1 << 58, math.MaxInt - 5, math.MaxInt - 1, math.MaxInt}
}

func TestReadOfEachPlace(t *testing.T) {
	const stands = "abcde"
	d := Load(sectors(stands))
	for at := -3; at <= 8; at++ {
		for n := -3; n <= 8; n++ {
			want, wantErr := "", api.ErrRange
			if at >= 0 && n >= 0 && at+n <= 5 {
				want, wantErr = stands[at:at+n], api.OK
			}
			if s, err := d.Read(at, n); letters(s) != want || err != wantErr {
				t.Errorf("Read(%d, %d) = %q, %d, want %q, %d", at, n, letters(s), err, want, wantErr)
			}
		}
	}
}

func TestReadOfNoPlace(t *testing.T) {
	d := Load(sectors("abcde"))
	for _, bad := range noPlaces() {
		for _, other := range append(noPlaces(), 0, 1, 4, 5) {
			if s, err := d.Read(bad, other); s != "" || err != api.ErrRange {
				t.Errorf("Read(%d, %d) = %q, %d, want ErrRange", bad, other, letters(s), err)
			}
			if s, err := d.Read(other, bad); s != "" || err != api.ErrRange {
				t.Errorf("Read(%d, %d) = %q, %d, want ErrRange", other, bad, letters(s), err)
			}
		}
	}
}

func TestWriteOfEachPlace(t *testing.T) {
	const stands, data = "abcde", "stuvwxyz"
	for at := -3; at <= 8; at++ {
		for n := range 9 {
			d := Load(sectors(stands))
			want, wantErr, pending := stands, api.ErrRange, 0
			if at >= 0 && at+n <= 5 {
				want, wantErr, pending = stands[:at]+data[:n]+stands[at+n:], api.OK, n
			}
			checkWrite(t, d, at, sectors(data[:n]), wantErr)
			checkReads(t, d, want)
			checkPending(t, d, pending)
			checkStands(t, d, stands)
		}
	}
}

func TestWriteOfNoPlace(t *testing.T) {
	d := Load(sectors("abcde"))
	for _, bad := range noPlaces() {
		for n := range 7 {
			checkWrite(t, d, bad, sectors("uvwxyz"[:n]), api.ErrRange)
		}
	}
	checkPending(t, d, 0)
	checkReads(t, d, "abcde")
}

// No whole number of sectors is told ahead of a place that is not there, and neither is a thing that would be done.
func TestWriteOfNoWholeSectors(t *testing.T) {
	d := Load(sectors("abcde"))
	d.Fail(0)
	for _, length := range []int{1, 2, 63, 65, 127, 129, 64*5 - 1, 64*5 + 1, 64*6 + 1} {
		for _, at := range append(noPlaces(), 0, 1, 4, 5) {
			checkWrite(t, d, at, strings.Repeat("x", length), api.ErrArg)
		}
	}
	for _, at := range noPlaces() {
		checkWrite(t, d, at, sectors("x"), api.ErrRange)
		checkWrite(t, d, at, "", api.ErrRange)
	}
	checkWrite(t, d, 0, sectors("uvwxyz"), api.ErrRange)
	checkDead(t, d, false)
	checkPending(t, d, 0)
	checkReads(t, d, "abcde")
}

func TestNothingOfADiskWithoutSectors(t *testing.T) {
	for _, d := range []*Disk{New(0), Load("")} {
		if s, err := d.Read(0, 0); s != "" || err != api.OK {
			t.Errorf("Read(0, 0) = %q, %d", s, err)
		}
		for _, place := range [][2]int{{0, 1}, {1, 0}, {1, -1}, {-1, 1}, {-1, 0}, {0, -1}} {
			if s, err := d.Read(place[0], place[1]); s != "" || err != api.ErrRange {
				t.Errorf("Read(%d, %d) = %q, %d, want ErrRange", place[0], place[1], s, err)
			}
		}
		checkWrite(t, d, 0, "", api.OK)
		checkWrite(t, d, 1, "", api.ErrRange)
		checkWrite(t, d, 0, sectors("x"), api.ErrRange)
		checkFlush(t, d, api.OK)
		d.Restart(true)
		if d.Bytes() != "" || d.Sectors() != 0 || d.Clone().Sectors() != 0 {
			t.Errorf("%q stands on a disk without sectors", d.Bytes())
		}
	}
}

func TestOneSector(t *testing.T) {
	d := New(1)
	checkWrite(t, d, 0, sectors("x"), api.OK)
	checkWrite(t, d, 1, "", api.OK)
	checkWrite(t, d, 1, sectors("y"), api.ErrRange)
	checkWrite(t, d, 0, sectors("yz"), api.ErrRange)
	checkReads(t, d, "x")
	checkStands(t, d, ".")
	checkFlush(t, d, api.OK)
	checkStands(t, d, "x")
}

func TestTheGreatestDisk(t *testing.T) {
	const n = 1 << 20
	d := New(n)
	text := strings.Repeat("the greatest disk has so many sectors that each of them may be one of another text; ", 1<<20)[:64*n]
	checkWrite(t, d, 0, text, api.OK)
	checkWrite(t, d, n-1, sectors("x"), api.OK)
	checkWrite(t, d, n, sectors("x"), api.ErrRange)
	checkWrite(t, d, n, "", api.OK)
	checkPending(t, d, n+1)
	want := text[:64*(n-1)] + sectors("x")
	if s, err := d.Read(0, n); s != want || err != api.OK {
		t.Errorf("Read of all sectors that are pending: other bytes, %d", err)
	}
	for _, at := range []int{0, 1, n / 2, n - 2, n - 1} {
		if s, err := d.Read(at, 1); s != want[64*at:][:64] || err != api.OK {
			t.Errorf("Read(%d, 1) = %q, %d", at, s, err)
		}
	}
	checkFlush(t, d, api.OK)
	if d.Bytes() != want {
		t.Error("other bytes stand there")
	}
}

// Each sector is looked up, not sought among all that are pending: else these reads would hold up every run of the tests.
func TestManyReadsOfManyPending(t *testing.T) {
	const n = 1 << 18
	d := New(n)
	for i := range n {
		if err := d.Write(i, sectors(string([]byte{'a' + byte(i%26)}))); err != api.OK {
			t.Fatalf("Write at %d: %d", i, err)
		}
	}
	for i := range n {
		if s, err := d.Read(i, 1); err != api.OK || s[0] != 'a'+byte(i%26) {
			t.Fatalf("Read(%d, 1) = %q, %d", i, s, err)
		}
	}
}

func TestWhatIsReadIsTheLastWrite(t *testing.T) {
	d := Load(sectors("abc"))
	checkWrite(t, d, 1, sectors("x"), api.OK)
	checkWrite(t, d, 1, sectors("y"), api.OK)
	checkReads(t, d, "ayc")
	checkPending(t, d, 2)
	checkWrite(t, d, 0, sectors("zw"), api.OK)
	checkReads(t, d, "zwc")
	checkWrite(t, d, 1, sectors("b"), api.OK) // what stands there anyway is a write like others
	checkReads(t, d, "zbc")
	checkPending(t, d, 5)
	checkStands(t, d, "abc")
	checkFlush(t, d, api.OK)
	checkStands(t, d, "zbc")
	checkReads(t, d, "zbc")
	checkPending(t, d, 0)
}

// Bytes are read as they were written, whatever they are, and at the place of each.
func TestEachByteOfASector(t *testing.T) {
	var all []byte
	for i := range 256 {
		all = append(all, byte(i*7+3))
	}
	d := New(6)
	checkWrite(t, d, 1, string(all), api.OK)
	want := strings.Repeat("\x00", 64) + string(all) + strings.Repeat("\x00", 64)
	if s, err := d.Read(0, 6); s != want || err != api.OK {
		t.Errorf("%q is read, %d", s, err)
	}
	checkFlush(t, d, api.OK)
	if d.Bytes() != want {
		t.Errorf("%q stands there", d.Bytes())
	}
	if s, err := d.Read(0, 6); s != want || err != api.OK {
		t.Errorf("%q is read of what stands, %d", s, err)
	}
}

// P4.1, D1 and D2: Flush, and the fuse.

func TestFlush(t *testing.T) {
	d := Load(sectors("abc"))
	checkFlush(t, d, api.OK)
	checkStands(t, d, "abc")
	checkWrite(t, d, 0, sectors("xy"), api.OK)
	checkStands(t, d, "abc")
	checkFlush(t, d, api.OK)
	checkStands(t, d, "xyc")
	checkPending(t, d, 0)
	checkWrite(t, d, 2, sectors("z"), api.OK)
	checkReads(t, d, "xyz")
	checkStands(t, d, "xyc")
	checkFlush(t, d, api.OK)
	checkFlush(t, d, api.OK)
	checkStands(t, d, "xyz")
}

// A write of three sectors, with each fuse: of fewer things than are done it dies between them.
func TestAWriteWithEachFuse(t *testing.T) {
	for fuse := range 6 {
		d := Load(sectors("abcd"))
		d.Fail(fuse)
		done, want := min(fuse, 3), api.OK
		if fuse < 3 {
			want = api.ErrCrash
		}
		checkWrite(t, d, 1, sectors("xyz"), want)
		checkDead(t, d, fuse < 3)
		checkPending(t, d, done)
		checkStands(t, d, "abcd")
		d.Restart(true, true, true)
		checkStands(t, d, "a"+"xyz"[:done]+"bcd"[done:])
	}
}

// Three writes of one sector, a flush, a write of two, a flush: seven things, with each fuse.
func TestThingsWithEachFuse(t *testing.T) {
	for fuse := range 10 {
		d := Load(sectors("abcd"))
		d.Fail(fuse)
		l := []api.Errno{
			d.Write(0, sectors("x")), d.Write(1, sectors("y")), d.Write(0, sectors("z")),
			d.Flush(), d.Write(2, sectors("vw")), d.Flush(),
		}
		behind := []int{1, 2, 3, 4, 6, 7} // how many things are done behind each
		for i, got := range l {
			want := api.OK
			if behind[i] > fuse {
				want = api.ErrCrash
			}
			if got != want {
				t.Errorf("fuse %d: call %d tells %d, want %d", fuse, i, got, want)
			}
		}
		checkDead(t, d, fuse < 7)
		checkPending(t, d, []int{0, 1, 2, 3, 0, 1, 2, 0, 0, 0}[fuse])
		checkStands(t, d, []string{"abcd", "abcd", "abcd", "abcd", "zycd", "zycd", "zycd", "zyvw", "zyvw", "zyvw"}[fuse])
	}
}

// A fuse of just as many things as are done lets them be done, and the next thing is not.
func TestAFuseThatIsUsedUp(t *testing.T) {
	d := Load(sectors("ab"))
	d.Fail(2)
	checkWrite(t, d, 0, sectors("x"), api.OK)
	checkFlush(t, d, api.OK)
	checkDead(t, d, false)
	checkReads(t, d, "xb")
	checkWrite(t, d, 2, "", api.OK)
	checkDead(t, d, false)
	checkWrite(t, d, 1, sectors("y"), api.ErrCrash)
	checkDead(t, d, true)
	checkPending(t, d, 0)
	checkStands(t, d, "xb")
}

func TestAFuseOfNothing(t *testing.T) {
	d := Load(sectors("ab"))
	checkWrite(t, d, 0, sectors("x"), api.OK)
	d.Fail(0)
	checkDead(t, d, false)
	checkReads(t, d, "xb")
	for _, at := range []int{0, 1, 2} {
		checkWrite(t, d, at, "", api.OK)
	}
	checkDead(t, d, false)
	checkFlush(t, d, api.ErrCrash)
	checkDead(t, d, true)
	checkPending(t, d, 1)
	checkStands(t, d, "ab")
}

// A flush is a thing also where nothing is pending.
func TestAFlushOfNothingDies(t *testing.T) {
	d := Load(sectors("ab"))
	d.Fail(1)
	checkFlush(t, d, api.OK)
	checkDead(t, d, false)
	checkFlush(t, d, api.ErrCrash)
	checkDead(t, d, true)
}

func TestWhatIsNoThingNeedsNoFuse(t *testing.T) {
	d := Load(sectors("ab"))
	d.Fail(1)
	for range 5 {
		checkReads(t, d, "ab")
		checkStands(t, d, "ab")
		checkPending(t, d, 0)
		checkWrite(t, d, 1, "", api.OK)
		checkWrite(t, d, 1, "x", api.ErrArg)
		checkWrite(t, d, 1, sectors("xy"), api.ErrRange)
		d.Clone().Flush()
	}
	checkFlush(t, d, api.OK)
	checkFlush(t, d, api.ErrCrash)
}

func TestAFuseThatIsTakenAway(t *testing.T) {
	for _, n := range []int{-1, -2, -64, math.MinInt} {
		d := Load(sectors("abcd"))
		d.Fail(0)
		d.Fail(n)
		for range 3 {
			checkWrite(t, d, 0, sectors("wxyz"), api.OK)
			checkFlush(t, d, api.OK)
		}
		checkDead(t, d, false)
		checkStands(t, d, "wxyz")
	}
}

func TestTheLastFuseHolds(t *testing.T) {
	d := Load(sectors("abcd"))
	d.Fail(0)
	d.Fail(2)
	checkWrite(t, d, 0, sectors("x"), api.OK)
	d.Fail(2)
	checkWrite(t, d, 1, sectors("xyz"), api.ErrCrash)
	checkPending(t, d, 3)
	d = Load(sectors("abcd"))
	d.Fail(5)
	d.Fail(1)
	checkWrite(t, d, 0, sectors("xy"), api.ErrCrash)
	checkPending(t, d, 1)
	d = Load(sectors("abcd"))
	d.Fail(math.MaxInt)
	checkWrite(t, d, 0, sectors("wxyz"), api.OK)
	checkFlush(t, d, api.OK)
}

// P4.1: a dead disk.

// That it is dead is told ahead of all that is wrong with what is asked.
func TestADeadDiskDoesNothing(t *testing.T) {
	d := dead(t)
	for _, at := range append(noPlaces(), 0, 1, 3, 4) {
		for _, n := range append(noPlaces(), 0, 1, 3, 4) {
			if s, err := d.Read(at, n); s != "" || err != api.ErrCrash {
				t.Errorf("Read(%d, %d) = %q, %d, want ErrCrash", at, n, letters(s), err)
			}
		}
		for _, data := range []string{"", "x", sectors("x"), sectors("x") + "y", sectors("uvwxyz")} {
			checkWrite(t, d, at, data, api.ErrCrash)
		}
	}
	checkFlush(t, d, api.ErrCrash)
	checkDead(t, d, true)
	checkPending(t, d, 3)
	checkStands(t, d, "abcd")
	if d.Sectors() != 4 {
		t.Errorf("%d sectors, want 4", d.Sectors())
	}
	c := d.Clone()
	checkDead(t, c, true)
	checkPending(t, c, 3)
	checkFlush(t, c, api.ErrCrash)
}

func TestNoFuseWakesADeadDisk(t *testing.T) {
	for _, n := range []int{math.MinInt, -1, 0, 1, 5, math.MaxInt} {
		d := dead(t)
		d.Fail(n)
		checkDead(t, d, true)
		checkFlush(t, d, api.ErrCrash)
		checkWrite(t, d, 0, sectors("x"), api.ErrCrash)
		checkWrite(t, d, 0, "", api.ErrCrash)
		checkPending(t, d, 3)
		d.Restart()
		checkDead(t, d, false)
		for range 3 { // the fuse that it was given while it was dead is gone too
			checkWrite(t, d, 0, sectors("wxyz"), api.OK)
			checkFlush(t, d, api.OK)
		}
		checkStands(t, d, "wxyz")
	}
}

// P4.1, D2: Restart.

func TestRestart(t *testing.T) {
	for _, c := range []struct {
		keep []bool
		want string
	}{
		{nil, "abcd"}, {[]bool{}, "abcd"}, {[]bool{false}, "abcd"}, {[]bool{false, false, false}, "abcd"},
		{[]bool{true}, "axcd"}, {[]bool{true, false}, "axcd"}, {[]bool{false, true}, "abyd"}, {[]bool{true, true}, "axyd"},
		{[]bool{false, false, true}, "abzd"}, {[]bool{false, true, false}, "abyd"}, {[]bool{false, true, true}, "abzd"},
		{[]bool{true, true, true}, "axzd"}, {[]bool{true, true, true, true}, "axzd"},
		{[]bool{false, false, false, true, true}, "abcd"}, {[]bool{true, true, false, true, true, true}, "axyd"},
	} {
		d := dead(t)
		d.Restart(c.keep...)
		checkDead(t, d, false)
		checkPending(t, d, 0)
		checkStands(t, d, c.want)
		checkReads(t, d, c.want)
		checkWrite(t, d, 0, sectors("s"), api.OK)
		checkFlush(t, d, api.OK)
		checkStands(t, d, "s"+c.want[1:])
	}
}

// The power of a disk that is not dead may be taken away too.
func TestRestartOfADiskThatIsNotDead(t *testing.T) {
	d := Load(sectors("abcd"))
	checkWrite(t, d, 0, sectors("wxyz"), api.OK)
	d.Fail(1)
	d.Restart(false, true, true)
	checkStands(t, d, "axyd")
	checkReads(t, d, "axyd")
	checkPending(t, d, 0)
	for range 3 {
		checkFlush(t, d, api.OK)
	}
	d.Restart(true, true, true)
	checkStands(t, d, "axyd")
	checkWrite(t, d, 3, sectors("s"), api.OK)
	checkPending(t, d, 1)
	d.Restart(true)
	checkStands(t, d, "axys")
}

func TestRestartOfADiskThatDiedAtItsFlush(t *testing.T) {
	d := Load(sectors("abcd"))
	d.Fail(2)
	checkWrite(t, d, 0, sectors("xy"), api.OK)
	checkFlush(t, d, api.ErrCrash)
	checkPending(t, d, 2)
	checkStands(t, d, "abcd")
	d.Restart(false, true)
	checkStands(t, d, "aycd")
}

// P4.1, D2: Clone.

func TestClone(t *testing.T) {
	d := Load(sectors("abcd"))
	checkWrite(t, d, 0, sectors("xy"), api.OK)
	d.Fail(3)
	c := d.Clone()
	if c == d || c.Sectors() != 4 {
		t.Errorf("a clone of %d sectors", c.Sectors())
	}
	checkReads(t, c, "xycd")
	checkStands(t, c, "abcd")
	checkPending(t, c, 2)

	checkWrite(t, d, 1, sectors("zw"), api.OK)
	checkReads(t, c, "xycd")
	checkPending(t, c, 2)
	checkFlush(t, d, api.OK)
	checkStands(t, d, "xzwd")
	checkStands(t, c, "abcd")
	checkReads(t, c, "xycd")
	checkFlush(t, d, api.ErrCrash)
	checkDead(t, c, false)

	checkWrite(t, c, 0, sectors("stu"), api.OK) // the three things of its own fuse
	checkWrite(t, c, 0, "", api.OK)
	checkFlush(t, c, api.ErrCrash)
	c.Restart(false, true, true, false, true)
	checkStands(t, c, "syud")
	checkStands(t, d, "xzwd")
	checkDead(t, d, true)
}

// Of two that were one, each has its own writes at the same places among those pending.
func TestClonesWriteApart(t *testing.T) {
	d := Load(sectors("abc"))
	for _, letter := range "uvw" {
		checkWrite(t, d, 0, sectors(string(letter)), api.OK)
	}
	c := d.Clone()
	checkWrite(t, d, 1, sectors("x"), api.OK)
	checkWrite(t, c, 2, sectors("y"), api.OK)
	checkWrite(t, d, 0, sectors("z"), api.OK)
	checkReads(t, d, "zxc")
	checkReads(t, c, "wby")
	checkFlush(t, d, api.OK)
	checkFlush(t, c, api.OK)
	checkStands(t, d, "zxc")
	checkStands(t, c, "wby")
}

// The rules that hold everywhere: a nil disk, and what is handed in.

func TestANilDisk(t *testing.T) {
	var d *Disk
	for _, at := range append(noPlaces(), 0, 1) {
		for _, n := range append(noPlaces(), 0, 1) {
			if s, err := d.Read(at, n); s != "" || err != api.ErrArg {
				t.Errorf("Read(%d, %d) = %q, %d, want ErrArg", at, n, s, err)
			}
		}
		for _, data := range []string{"", "x", sectors("x")} {
			checkWrite(t, d, at, data, api.ErrArg)
		}
		d.Fail(at)
	}
	checkFlush(t, d, api.ErrArg)
	checkPending(t, d, 0)
	checkDead(t, d, false)
	d.Restart()
	d.Restart(true, false)
	if d.Sectors() != 0 || d.Bytes() != "" || d.Clone() != nil {
		t.Errorf("a nil disk has %d sectors and %q, and its clone is %v", d.Sectors(), d.Bytes(), d.Clone())
	}
}

func TestKeepIsNeitherWrittenNorKeptNorReadBehind(t *testing.T) {
	keep := []bool{true, false, true, true, true}
	d := dead(t)
	d.Restart(keep[:2]...)
	checkStands(t, d, "axcd")
	if !slices.Equal(keep, []bool{true, false, true, true, true}) {
		t.Errorf("keep is %v now", keep)
	}
	keep[1] = true
	checkStands(t, d, "axcd")
	checkWrite(t, d, 0, sectors("stu"), api.OK)
	d.Restart()
	checkStands(t, d, "axcd")
}

// What was answered stays what it was, whatever is done behind it.
func TestAnswersStay(t *testing.T) {
	d := Load(sectors("abc"))
	stood := d.Bytes()
	read, _ := d.Read(0, 3)
	checkWrite(t, d, 0, sectors("xyz"), api.OK)
	pending, _ := d.Read(0, 3)
	checkFlush(t, d, api.OK)
	checkWrite(t, d, 0, sectors("uvw"), api.OK)
	d.Restart(true, true, true)
	if letters(stood) != "abc" || letters(read) != "abc" || letters(pending) != "xyz" {
		t.Errorf("the answers are %q, %q and %q now", letters(stood), letters(read), letters(pending))
	}
}

// P4.2: flushed.

// A try's calls: letters are written from a sector on, or, if there are none, all is flushed.
type call struct {
	at      int
	letters string
}

func tryCalls() []call {
	return []call{{0, "wx"}, {1, "y"}, {}, {1, "stu"}, {2, "v"}, {1, "w"}, {}, {0, "z"}, {3, "z"}, {0, "x"}}
}

// run does the calls till the disk dies, and tells what was flushed, and, sector by sector, what was written since.
func run(t *testing.T, d *Disk, l []call) (flushed string, written []string) {
	t.Helper()
	flushed, written = letters(d.Bytes()), make([]string, d.Sectors())
	for _, c := range l {
		if c.letters == "" {
			before := readAll(t, d)
			if d.Flush() != api.OK {
				return flushed, written
			}
			flushed, written = before, make([]string, d.Sectors())
			continue
		}
		already := d.Pending()
		err := d.Write(c.at, sectors(c.letters))
		for i := range d.Pending() - already {
			written[c.at+i] += c.letters[i : i+1]
		}
		if err != api.OK {
			return flushed, written
		}
	}
	return flushed, written
}

// allKeeps are all ways to keep some of so many writes.
func allKeeps(n int) [][]bool {
	l := [][]bool{{}}
	for range n {
		var longer [][]bool
		for _, keep := range l {
			longer = append(longer, append(slices.Clone(keep), false), append(slices.Clone(keep), true))
		}
		l = longer
	}
	return l
}

func TestWhatWasFlushedStands(t *testing.T) {
	for fuse := -1; fuse <= 17; fuse++ {
		d := Load(sectors("abcd"))
		d.Fail(fuse)
		flushed, written := run(t, d, tryCalls())
		checkStands(t, d, flushed)
		seen := make([]string, 4)
		for _, keep := range allKeeps(d.Pending()) {
			c := d.Clone()
			c.Restart(keep...)
			got := letters(c.Bytes())
			for i := range 4 {
				if !strings.Contains(flushed[i:i+1]+written[i], got[i:i+1]) {
					t.Errorf("fuse %d, keep %v: sector %d is %q, flushed was %q, written then %q", fuse, keep, i, got[i:i+1], flushed[i:i+1], written[i])
				}
				seen[i] += got[i : i+1]
			}
			checkReads(t, c, got)
		}
		for i := range 4 { // and each of them may be what stands there then
			for _, letter := range flushed[i:i+1] + written[i] {
				if !strings.ContainsRune(seen[i], letter) {
					t.Errorf("fuse %d: sector %d is never %q", fuse, i, letter)
				}
			}
		}
		d.Restart()
		checkStands(t, d, flushed)
	}
}

// P4.1, P4.2, P1 and P2: many calls, held against a disk that is just the chapter's words.

type plainDisk struct {
	stands  []string
	pending []plainWrite
	fused   bool
	fuse    int
	dead    bool
}

type plainWrite struct {
	at     int
	letter string
}

func (p *plainDisk) thing() bool {
	if p.dead || p.fused && p.fuse == 0 {
		p.dead = true
		return false
	}
	if p.fused {
		p.fuse--
	}
	return true
}

func (p *plainDisk) read(at, n int) (string, api.Errno) {
	if p.dead {
		return "", api.ErrCrash
	}
	if at < 0 || n < 0 || at+n > len(p.stands) {
		return "", api.ErrRange
	}
	l := slices.Clone(p.stands)
	for _, w := range p.pending {
		l[w.at] = w.letter
	}
	return strings.Join(l[at:at+n], ""), api.OK
}

func (p *plainDisk) write(at int, text string) api.Errno {
	if p.dead {
		return api.ErrCrash
	}
	if at < 0 || at+len(text) > len(p.stands) {
		return api.ErrRange
	}
	for i := range len(text) {
		if !p.thing() {
			return api.ErrCrash
		}
		p.pending = append(p.pending, plainWrite{at + i, text[i : i+1]})
	}
	return api.OK
}

func (p *plainDisk) flush() api.Errno {
	if !p.thing() {
		return api.ErrCrash
	}
	p.settle(slices.Repeat([]bool{true}, len(p.pending)))
	return api.OK
}

func (p *plainDisk) settle(keep []bool) {
	for i, w := range p.pending {
		if i < len(keep) && keep[i] {
			p.stands[w.at] = w.letter
		}
	}
	p.pending = nil
}

func (p *plainDisk) restart(keep []bool) {
	p.settle(keep)
	p.dead, p.fused, p.fuse = false, false, 0
}

// numbers are from a fixed rule.
type numbers uint64

func (r *numbers) below(n int) int {
	x := uint64(*r)
	x ^= x << 13
	x ^= x >> 7
	x ^= x << 17
	*r = numbers(x)
	return int(x>>20) % n
}

// askBoth does one call, of any kind, on both.
func askBoth(t *testing.T, r *numbers, d *Disk, p *plainDisk) {
	t.Helper()
	at, n := r.below(10)-1, r.below(10)-1
	switch r.below(9) {
	case 0, 1, 2, 3:
		from := r.below(20)
		text := "abcdefghijklmnopqrstuvwxyz"[from : from+r.below(5)]
		if got, want := d.Write(at, sectors(text)), p.write(at, text); got != want {
			t.Fatalf("Write of %q at %d: %d, want %d", text, at, got, want)
		}
	case 4:
		if got, want := d.Flush(), p.flush(); got != want {
			t.Fatalf("Flush: %d, want %d", got, want)
		}
	case 5:
		d.Fail(3*n - 3)
		p.fused, p.fuse = n >= 1, max(3*n-3, 0)
	case 6:
		if !p.dead && r.below(4) > 0 {
			return
		}
		var keep []bool
		for range r.below(len(p.pending) + 3) {
			keep = append(keep, r.below(2) == 0)
		}
		d.Restart(keep...)
		p.restart(keep)
	default:
		got, gotErr := d.Read(at, n)
		want, wantErr := p.read(at, n)
		if letters(got) != want || gotErr != wantErr {
			t.Fatalf("Read(%d, %d) = %q, %d, want %q, %d", at, n, letters(got), gotErr, want, wantErr)
		}
	}
}

func checkBoth(t *testing.T, d *Disk, p *plainDisk) {
	t.Helper()
	if d.Sectors() != len(p.stands) || d.Pending() != len(p.pending) || d.Dead() != p.dead || letters(d.Bytes()) != strings.Join(p.stands, "") {
		t.Fatalf("%d sectors, %d pending, dead %t, %q, want %d, %d, %t, %q",
			d.Sectors(), d.Pending(), d.Dead(), letters(d.Bytes()), len(p.stands), len(p.pending), p.dead, p.stands)
	}
	got, gotErr := d.Read(0, d.Sectors())
	want, wantErr := p.read(0, len(p.stands))
	if letters(got) != want || gotErr != wantErr {
		t.Fatalf("%q is read, %d, want %q, %d", letters(got), gotErr, want, wantErr)
	}
}

func TestManyCalls(t *testing.T) {
	r := numbers(88172645463325252)
	for range 300 {
		n := r.below(8)
		d, p := New(n), &plainDisk{stands: strings.Split(strings.Repeat(".", n), "")}
		for range 60 {
			askBoth(t, &r, d, p)
			checkBoth(t, d, p)
			if r.below(20) == 0 { // the clone goes on, and what befalls the first one is not its own
				first := d
				d = first.Clone()
				first.Restart(true, false, true)
				first.Write(0, first.Bytes())
				checkBoth(t, d, p)
			}
		}
	}
}

// The same calls, on two disks in turn, are told the same.
func TestDisksAreApart(t *testing.T) {
	one, other := numbers(362436069), numbers(362436069)
	const n = 6
	stands := strings.Split(strings.Repeat(".", n), "")
	d, p := New(n), &plainDisk{stands: slices.Clone(stands)}
	e, q := New(n), &plainDisk{stands: slices.Clone(stands)}
	for range 2000 {
		askBoth(t, &one, d, p)
		askBoth(t, &other, e, q)
		checkBoth(t, d, p)
		checkBoth(t, e, q)
		if d.Bytes() != e.Bytes() || d.Pending() != e.Pending() || d.Dead() != e.Dead() {
			t.Fatal("two disks, with the same calls, are not the same")
		}
	}
}
