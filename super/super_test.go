package super

import (
	"encoding/binary"
	"hash/crc32"
	"math"
	"slices"
	"strings"
	"testing"

	"oakum/api"
)

const (
	diskEnd       = 1048576 // 2^20
	greatestChunk = 128
	behindStart   = 17 // the superblock's sector, and 16 slots'
	bodySize      = 60 // bytes ahead of the sum
	superSize     = 16 // bytes of the letters and the numbers
)

// zeros are the bytes of a body behind a superblock.
var zeros = strings.Repeat("\x00", bodySize-superSize)

// sealedOf is a body's sealed bytes, as the library has the sum and its bytes.
func sealedOf(body string) string {
	return string(binary.LittleEndian.AppendUint32([]byte(body), crc32.ChecksumIEEE([]byte(body))))
}

// bodyOf is what stands ahead of a sector's sum, by the chapter's words, as the library has the numbers' bytes.
func bodyOf(letters string, sectors, origin, chunk uint32) string {
	b := []byte(letters)
	for _, n := range []uint32{sectors, origin, chunk} {
		b = binary.LittleEndian.AppendUint32(b, n)
	}
	return string(b) + strings.Repeat("\x00", bodySize-len(b))
}

// sectorOf is a superblock's sector, by the chapter's words.
func sectorOf(x api.Super) string {
	return sealedOf(bodyOf("OAK1", uint32(x.Sectors), uint32(x.Origin), uint32(x.Chunk)))
}

// mayBe tells by the chapter's words whether a superblock may be. What no disk has is put aside first, so that no
// number here wraps round.
func mayBe(sectors, origin, chunk int) bool {
	for _, n := range []int{sectors, origin} {
		if n < 1 || n > diskEnd {
			return false
		}
	}
	return chunk >= 1 && chunk <= greatestChunk && sectors-origin >= behindStart
}

// toldOf is what Decode tells of a body that is sealed, by the chapter's words.
func toldOf(body string) (api.Super, api.Errno) {
	b := []byte(body)
	sectors, origin, chunk := binary.LittleEndian.Uint32(b[4:8]), binary.LittleEndian.Uint32(b[8:12]), binary.LittleEndian.Uint32(b[12:16])
	switch {
	case body[:4] != "OAK1":
		return api.Super{}, api.ErrMagic
	case !mayBe(int(sectors), int(origin), int(chunk)), body[superSize:] != zeros:
		return api.Super{}, api.ErrForm
	}
	return superOf(int(sectors), int(origin), int(chunk)), api.OK
}

func superOf(sectors, origin, chunk int) api.Super {
	return api.Super{Sectors: sectors, Origin: origin, Chunk: chunk}
}

func rightChunks() []int { return []int{1, 2, 3, 4, 64, 127, 128} }

// wrongChunks can't be a chunk's sectors; of some of them the lowest bytes alone are those of one that may be.
func wrongChunks() []int {
	return []int{
		0, -1, -2, -128, -255, -256, -65535, -65532, math.MinInt32, math.MinInt32 + 1, -1<<32 + 1, -1<<32 + 128, math.MinInt, math.MinInt + 1, math.MinInt + 128,
		129, 130, 255, 256, 257, 260, 1 << 16, 1<<16 + 1, 1<<16 + 128, 1 << 20, 1<<24 + 4, math.MaxInt32, 1 << 31, 1<<31 + 1,
		math.MaxUint32, 1 << 32, 1<<32 + 1, 1<<32 + 4, 1<<32 + 128, 1<<48 + 7, 1<<62 + 1, math.MaxInt - 1, math.MaxInt,
	}
}

// rightParts are the sectors of a disk and of its origin, with room for all that stands ahead of it.
func rightParts() [][2]int {
	return [][2]int{
		{18, 1}, {19, 1}, {19, 2}, {57, 40}, {58, 40}, {80, 4}, {256, 239}, {272, 255}, {273, 256}, {513, 258}, {65535, 65518}, {65536, 65519}, {65553, 65536},
		{1 << 17, 1 << 16}, {diskEnd / 2, 1}, {diskEnd - 1, 1}, {diskEnd - 1, diskEnd - 18}, {diskEnd, 1}, {diskEnd, 2}, {diskEnd, diskEnd / 2}, {diskEnd, diskEnd - 18}, {diskEnd, diskEnd - 17},
	}
}

// wrongParts can't be a disk's and its origin's; of some of them the difference, the sum that wraps round, or the
// lowest four bytes alone are those of some that can.
func wrongParts() [][2]int {
	return [][2]int{
		{0, 0}, {17, 0}, {18, 0}, {80, 0}, {diskEnd, 0}, {diskEnd + 1, 0}, {0, 1}, {1, 1}, {16, 1}, {17, 1}, {18, 2}, {40, 40}, {55, 40}, {56, 40}, {39, 40},
		{diskEnd, diskEnd - 16}, {diskEnd, diskEnd - 15}, {diskEnd, diskEnd - 1}, {diskEnd, diskEnd}, {diskEnd, diskEnd + 1}, {diskEnd - 1, diskEnd - 17},
		{diskEnd + 1, 1}, {diskEnd + 1, diskEnd - 16}, {diskEnd + 1, diskEnd - 17}, {diskEnd + 16, diskEnd - 1}, {diskEnd + 17, diskEnd}, {diskEnd + 18, diskEnd + 1}, {2 * diskEnd, diskEnd},
		{80, -1}, {80, -4}, {80, -17}, {80, -18}, {0, -17}, {1, -17}, {17, -1}, {diskEnd, -diskEnd}, {80, math.MinInt32}, {80, math.MinInt}, {80, math.MinInt + 1}, {diskEnd, math.MinInt + 4},
		{-1, 1}, {-1, -18}, {-17, -34}, {-80, 4}, {-80, -97}, {-diskEnd, 1}, {math.MinInt32, 1}, {math.MinInt, 1}, {math.MinInt + 1, 1}, {math.MinInt + 16, 1}, {math.MinInt + 17, 1}, {math.MinInt + 18, 1},
		{math.MinInt, math.MinInt}, {math.MinInt + 17, math.MinInt}, {math.MinInt + 80, math.MinInt + 4}, {math.MinInt, math.MaxInt}, {math.MinInt + 16, math.MaxInt},
		{80, math.MaxInt}, {80, math.MaxInt - 1}, {80, math.MaxInt - 15}, {80, math.MaxInt - 16}, {80, math.MaxInt - 17}, {diskEnd, math.MaxInt}, {0, math.MaxInt}, {0, math.MaxInt - 16},
		{math.MaxInt, 1}, {math.MaxInt, 4}, {math.MaxInt, diskEnd}, {math.MaxInt, math.MaxInt}, {math.MaxInt, math.MaxInt - 17}, {math.MaxInt, math.MaxInt - 16}, {math.MaxInt, math.MinInt}, {math.MaxInt - 1, 1},
		{1<<32 + 80, 4}, {80, 1<<32 + 4}, {1<<32 + 80, 1<<32 + 4}, {-1<<32 + 80, 4}, {80, -1<<32 + 4}, {-1<<32 + 80, -1<<32 + 4}, {1<<32 + diskEnd, 1}, {1<<33 + 80, 1<<32 + 4},
		{1<<24 + 80, 4}, {1<<24 + 80, 1<<24 + 4}, {1 << 21, 1}, {1 << 31, 1}, {1 << 31, 1<<31 - 17}, {math.MaxInt32, 1}, {math.MaxUint32, 1}, {math.MaxUint32, math.MaxUint32}, {math.MaxUint32, math.MaxUint32 - 17}, {16, math.MaxUint32},
		{80, 1 << 31}, {80, math.MaxUint32}, {80, 1 << 32}, {1 << 32, 1}, {1 << 62, 1 << 61}, {1<<62 + 80, 1<<62 + 4},
	}
}

func rightSupers() (l []api.Super) {
	for _, part := range rightParts() {
		for _, chunk := range rightChunks() {
			l = append(l, superOf(part[0], part[1], chunk))
		}
	}
	return l
}

// wrongSupers may not be: by their chunk, by their parts, or by both.
func wrongSupers() (l []api.Super) {
	for _, part := range wrongParts() {
		for _, chunk := range append(rightChunks(), wrongChunks()...) {
			l = append(l, superOf(part[0], part[1], chunk))
		}
	}
	for _, part := range rightParts() {
		for _, chunk := range wrongChunks() {
			l = append(l, superOf(part[0], part[1], chunk))
		}
	}
	return l
}

// someSupers are one in the midst of what may be, and some at its edges.
func someSupers() []api.Super {
	return []api.Super{superOf(57, 40, 4), superOf(18, 1, 1), superOf(1<<17, 258, 100), superOf(diskEnd, 1, 128), superOf(diskEnd, diskEnd-17, 128)}
}

// with is a text whose byte at a place is another one.
func with(s string, at int, b byte) string { return s[:at] + string([]byte{b}) + s[at+1:] }

func mustEncode(t *testing.T, x api.Super) string {
	t.Helper()
	s, err := Encode(x)
	if err != api.OK || len(s) != 64 {
		t.Fatalf("Encode(%v) = %q, %d", x, s, err)
	}
	return s
}

func checkRefused(t *testing.T, s string, want api.Errno) {
	t.Helper()
	if x, err := Decode(s); x != (api.Super{}) || err != want {
		t.Errorf("Decode(%q) = %v, %d, want error %d", s, x, err, want)
	}
}

// checkTold holds what is decoded of a sealed body against the chapter's words, and encodes it again.
func checkTold(t *testing.T, body string) {
	t.Helper()
	s := sealedOf(body)
	want, wantErr := toldOf(body)
	x, err := Decode(s)
	if x != want || err != wantErr {
		t.Errorf("Decode of sealed %q = %v, %d, want %v, %d", body, x, err, want, wantErr)
	}
	if err != api.OK {
		return
	}
	if again, errAgain := Encode(x); again != s || errAgain != api.OK {
		t.Errorf("Decode of sealed %q, and Encode: %q, %d", body, again, errAgain)
	}
}

// P9.1, U1: Right.

func TestRight(t *testing.T) {
	for _, x := range rightSupers() {
		if !Right(x) {
			t.Errorf("Right(%v) is false", x)
		}
	}
	for _, x := range wrongSupers() {
		if Right(x) {
			t.Errorf("Right(%v) is true", x)
		}
	}
}

func TestRightAtItsEdges(t *testing.T) {
	for _, c := range []struct {
		sectors, origin, chunk int
		want                   bool
	}{
		{0, 0, 0, false},
		{57, 40, 4, true},
		{56, 40, 4, false},
		{58, 40, 4, true},
		{80, -1, 4, false},
		{80, 0, 4, false},
		{80, 1, 4, true},
		{diskEnd, diskEnd, 4, false},
		{diskEnd, diskEnd + 1, 4, false},
		{diskEnd + 17, diskEnd, 4, false},
		{diskEnd + 18, diskEnd + 1, 4, false},
		{80, 4, -1, false},
		{80, 4, 0, false},
		{80, 4, 1, true},
		{80, 4, 128, true},
		{80, 4, 129, false},
		{-1, 4, 4, false},
		{0, 4, 4, false},
		{20, 4, 4, false},
		{21, 4, 4, true},
		{diskEnd, 4, 4, true},
		{diskEnd + 1, 4, 4, false},
		{diskEnd, diskEnd - 17, 4, true},
		{diskEnd - 1, diskEnd - 17, 4, false},
		{diskEnd + 1, diskEnd - 17, 4, false},
		{diskEnd, diskEnd - 16, 4, false},
		{diskEnd + 1, diskEnd - 16, 4, false},
		{80, math.MaxInt - 16, 4, false},
		{80, math.MaxInt, 4, false},
		{math.MinInt, 1, 1, false},
		{1<<32 + 80, 4, 4, false},
		{80, 1<<32 + 4, 4, false},
		{80, 4, 1<<32 + 4, false},
	} {
		x := superOf(c.sectors, c.origin, c.chunk)
		if got := Right(x); got != c.want {
			t.Errorf("Right(%v) = %t", x, got)
		}
	}
}

// Each origin up to behind the greatest disk, with disks that are just so great, and with one sector fewer or more.
func TestRightOfEachOrigin(t *testing.T) {
	for origin := -40; origin <= diskEnd+40; origin++ {
		for _, sectors := range []int{-1, 0, origin, origin + 16, origin + 17, origin + 18, diskEnd, diskEnd + 1} {
			x := superOf(sectors, origin, 1+origin&127)
			if got := Right(x); got != mayBe(x.Sectors, x.Origin, x.Chunk) {
				t.Fatalf("Right(%v) = %t", x, got)
			}
		}
	}
}

func TestRightOfEachDiskAndChunk(t *testing.T) {
	for n := -70000; n <= diskEnd+70000; n++ {
		if got := Right(superOf(n, 40, 4)); got != (n >= 57 && n <= diskEnd) {
			t.Fatalf("Right of a disk of %d = %t", n, got)
		}
		if got := Right(superOf(57, 40, n)); got != (n >= 1 && n <= greatestChunk) {
			t.Fatalf("Right of a chunk of %d = %t", n, got)
		}
	}
}

// P9.1, U1: Encode.

func TestEncode(t *testing.T) {
	for _, c := range []struct {
		x    api.Super
		want string
	}{
		{superOf(57, 40, 4), "OAK1\x39\x00\x00\x00\x28\x00\x00\x00\x04\x00\x00\x00" + zeros},
		{superOf(18, 1, 1), "OAK1\x12\x00\x00\x00\x01\x00\x00\x00\x01\x00\x00\x00" + zeros},
		{superOf(0x0c0b0a, 0x030201, 0x7f), "OAK1\x0a\x0b\x0c\x00\x01\x02\x03\x00\x7f\x00\x00\x00" + zeros},
		{superOf(1<<20, 1, 128), "OAK1\x00\x00\x10\x00\x01\x00\x00\x00\x80\x00\x00\x00" + zeros},
		{superOf(1<<20, 1<<20-17, 128), "OAK1\x00\x00\x10\x00\xef\xff\x0f\x00\x80\x00\x00\x00" + zeros},
	} {
		if got, err := Encode(c.x); got != sealedOf(c.want) || err != api.OK || len(got) != 64 {
			t.Errorf("Encode(%v) = %q, %d, want %q", c.x, got, err, sealedOf(c.want))
		}
	}
}

func TestEncodeOfEachSuper(t *testing.T) {
	for _, x := range rightSupers() {
		if got, err := Encode(x); got != sectorOf(x) || err != api.OK {
			t.Errorf("Encode(%v) = %q, %d, want %q", x, got, err, sectorOf(x))
		}
	}
}

func TestEncodeOfSupersThatMayNotBe(t *testing.T) {
	for _, x := range wrongSupers() {
		if got, err := Encode(x); got != "" || err != api.ErrArg {
			t.Errorf("Encode(%v) = %q, %d, want ErrArg", x, got, err)
		}
	}
}

// P9.1, U1: Decode.

func TestDecode(t *testing.T) {
	for _, c := range []struct {
		body string
		want api.Super
	}{
		{"OAK1\x39\x00\x00\x00\x28\x00\x00\x00\x04\x00\x00\x00" + zeros, superOf(57, 40, 4)},
		{"OAK1\x12\x00\x00\x00\x01\x00\x00\x00\x01\x00\x00\x00" + zeros, superOf(18, 1, 1)},
		{"OAK1\x0a\x0b\x0c\x00\x01\x02\x03\x00\x7f\x00\x00\x00" + zeros, superOf(0x0c0b0a, 0x030201, 0x7f)},
		{"OAK1\x00\x00\x10\x00\xef\xff\x0f\x00\x80\x00\x00\x00" + zeros, superOf(1<<20, 1<<20-17, 128)},
	} {
		if x, err := Decode(sealedOf(c.body)); x != c.want || err != api.OK {
			t.Errorf("Decode of sealed %q = %v, %d, want %v", c.body, x, err, c.want)
		}
	}
}

// Bytes of another length are cut, also those that begin with a superblock's sector, or are sealed themselves.
func TestDecodeOfAnotherLength(t *testing.T) {
	s := mustEncode(t, superOf(57, 40, 4))
	checkRefused(t, "", api.ErrCut)
	for length := range 200 {
		if length == 64 {
			continue
		}
		checkRefused(t, strings.Repeat(s, 4)[:length], api.ErrCut)
		checkRefused(t, strings.Repeat("\x00", length), api.ErrCut)
		checkRefused(t, strings.Repeat("\xff", length), api.ErrCut)
		if length >= 4 {
			checkRefused(t, sealedOf(strings.Repeat("\x00", length-4)), api.ErrCut)
			checkRefused(t, sealedOf((s[:bodySize] + strings.Repeat("\x00", 200))[:length-4]), api.ErrCut)
		}
	}
	checkRefused(t, s[:63], api.ErrCut)
	checkRefused(t, s+"\x00", api.ErrCut)
	checkRefused(t, "\x00"+s, api.ErrCut)
	checkRefused(t, s[1:], api.ErrCut)
	checkRefused(t, s+s, api.ErrCut)
	checkRefused(t, strings.Repeat(s, 64), api.ErrCut)
	checkRefused(t, strings.Repeat("\x00", 1<<20), api.ErrCut)
}

// Each bit of a sector, and each byte, wherever it stands, is one that the sum holds.
func TestDecodeOfOneByteThatIsAnother(t *testing.T) {
	for _, x := range someSupers() {
		s := mustEncode(t, x)
		for at := range s {
			for bit := range 8 {
				checkRefused(t, with(s, at, s[at]^1<<bit), api.ErrSum)
			}
			for other := range 256 {
				if byte(other) != s[at] {
					checkRefused(t, with(s, at, byte(other)), api.ErrSum)
				}
			}
		}
	}
}

func TestDecodeOfBytesWithoutASum(t *testing.T) {
	s := mustEncode(t, superOf(57, 40, 4))
	for _, wrong := range []string{
		strings.Repeat("\x00", 64), strings.Repeat("\x01", 64), strings.Repeat("\xff", 64), strings.Repeat("OAK1", 16),
		s[1:] + s[:1], s[4:] + s[:4], s[:60] + "\x00\x00\x00\x00", s[:60] + s[63:] + s[62:63] + s[61:62] + s[60:61],
	} {
		checkRefused(t, wrong, api.ErrSum)
	}
}

func TestDecodeOfOtherLetters(t *testing.T) {
	for _, x := range someSupers() {
		body := mustEncode(t, x)[:bodySize]
		for _, letters := range []string{
			"OAKH", "OAKS", "OAK2", "OAK0", "OAKI", "OAKl", "OAK\x01", "OAK\x00", "oak1", "1KAO", "AOK1", "\x00\x00\x00\x00", "\xff\xff\xff\xff", "    ", "0AK1", " OAK", "AK1O",
		} {
			checkRefused(t, sealedOf(letters+body[4:]), api.ErrMagic)
		}
		for at := range 4 {
			for other := range 256 {
				if byte(other) != body[at] {
					checkRefused(t, sealedOf(with(body, at, byte(other))), api.ErrMagic)
				}
			}
		}
		// The letters stand there, but not at the beginning.
		checkRefused(t, sealedOf("\x00"+body[:bodySize-1]), api.ErrMagic)
		checkRefused(t, sealedOf(body[1:]+"\x00"), api.ErrMagic)
		checkRefused(t, sealedOf(body[4:]+"OAK1"), api.ErrMagic)
	}
}

// 64 bytes 0 are not sealed; sealed bytes 0 begin with other letters, and behind the right ones they are no superblock's.
func TestDecodeOfBytesZero(t *testing.T) {
	checkRefused(t, strings.Repeat("\x00", 64), api.ErrSum)
	checkRefused(t, sealedOf(strings.Repeat("\x00", bodySize)), api.ErrMagic)
	checkRefused(t, sealedOf("OAK1"+strings.Repeat("\x00", bodySize-4)), api.ErrForm)
}

// Of each superblock that may not be, and whose numbers are four bytes' each, the sector says nothing.
func TestDecodeOfNumbersThatMayNotBe(t *testing.T) {
	fits := func(n int) bool { return n >= 0 && n <= math.MaxUint32 }
	tried := 0
	for _, x := range wrongSupers() {
		if fits(x.Sectors) && fits(x.Origin) && fits(x.Chunk) {
			checkRefused(t, sectorOf(x), api.ErrForm)
			tried++
		}
	}
	if tried < 1000 {
		t.Errorf("only %d were tried", tried)
	}
	for _, c := range [][3]uint32{
		{56, 40, 4}, {0, 40, 4}, {17, 0, 4}, {57, 0, 4}, {57, 40, 0}, {57, 40, 129}, {57, 40, 256}, {57, 40, 1 << 24}, {57, 40, 1<<31 + 4}, {57, 40, math.MaxUint32},
		{diskEnd + 1, 40, 4}, {1<<31 + 57, 40, 4}, {math.MaxUint32, 40, 4}, {57, 41, 4}, {57, 1 << 31, 4}, {57, math.MaxUint32, 4}, {16, math.MaxUint32, 4}, {57, math.MaxUint32 - 16, 4},
		{diskEnd, diskEnd - 16, 4}, {diskEnd + 1, diskEnd - 16, 4}, {diskEnd + 17, diskEnd, 4}, {1<<31 + 17, 1 << 31, 4}, {math.MaxUint32, math.MaxUint32 - 17, 4},
	} {
		checkRefused(t, sealedOf(bodyOf("OAK1", c[0], c[1], c[2])), api.ErrForm)
	}
}

func TestDecodeOfBytesBehindTheSuper(t *testing.T) {
	for _, x := range someSupers() {
		body := mustEncode(t, x)[:bodySize]
		for at := superSize; at < bodySize; at++ {
			for other := 1; other < 256; other++ {
				checkRefused(t, sealedOf(with(body, at, byte(other))), api.ErrForm)
			}
		}
		checkRefused(t, sealedOf(body[:superSize]+strings.Repeat("\xff", bodySize-superSize)), api.ErrForm)
		checkRefused(t, sealedOf(body[:superSize]+body[:bodySize-superSize]), api.ErrForm)
	}
}

// Each byte of a body is each other one, and sealed again: what is told is what the chapter's words say.
func TestDecodeOfEachByteSealedAgain(t *testing.T) {
	for _, x := range someSupers() {
		body := mustEncode(t, x)[:bodySize]
		for at := range body {
			for other := range 256 {
				checkTold(t, with(body, at, byte(other)))
			}
		}
	}
}

// Of several that are wrong the first one is told: the length, the sum, the letters, what is said.
func TestDecodeOfSeveralThatAreWrong(t *testing.T) {
	for _, form := range []string{
		bodyOf("OAK1", 56, 40, 4), bodyOf("OAK1", 57, 0, 4), bodyOf("OAK1", 57, 40, 0), bodyOf("OAK1", diskEnd+1, 40, 129),
		bodyOf("OAK1", 0, 0, 0), with(bodyOf("OAK1", 57, 40, 4), 59, 1), "OAK1" + strings.Repeat("\xff", 56),
	} {
		magic := "OAKH" + form[4:]
		checkRefused(t, sealedOf(form), api.ErrForm)
		checkRefused(t, sealedOf(magic), api.ErrMagic)
		for _, s := range []string{sealedOf(form), sealedOf(magic)} {
			for at := range s {
				checkRefused(t, with(s, at, s[at]^1), api.ErrSum)
			}
			for _, wrong := range []string{s, with(s, 3, 'x'), with(s, 63, s[63]^128)} {
				checkRefused(t, wrong[:63], api.ErrCut)
				checkRefused(t, wrong[:60], api.ErrCut)
				checkRefused(t, wrong+"\x00", api.ErrCut)
			}
		}
		checkRefused(t, sealedOf(form[:59]), api.ErrCut)
		checkRefused(t, sealedOf(magic+"\x00"), api.ErrCut)
	}
	// The letters are other ones of a superblock that may be, too.
	checkRefused(t, sealedOf(bodyOf("OAK2", 57, 40, 4)), api.ErrMagic)
}

// P9.2: there and back.

func TestWhatIsEncodedIsDecoded(t *testing.T) {
	for _, want := range rightSupers() {
		if got, err := Decode(mustEncode(t, want)); got != want || err != api.OK {
			t.Errorf("Encode(%v), and Decode: %v, %d", want, got, err)
		}
	}
}

// Two superblocks that are not the same have sectors that are not.
func TestEachSuperHasItsOwnSector(t *testing.T) {
	seen := map[string]api.Super{}
	for _, x := range rightSupers() {
		s := mustEncode(t, x)
		if other, ok := seen[s]; ok {
			t.Errorf("%v and %v have one sector", x, other)
		}
		seen[s] = x
	}
}

// Sealed bytes are a superblock's just if they say nothing that is none's, and then they are encoded to themselves.
func TestWhatIsDecodedIsEncoded(t *testing.T) {
	seed := uint64(88172645463325252)
	next := func() uint64 {
		seed ^= seed << 13
		seed ^= seed >> 7
		seed ^= seed << 17
		return seed >> 8
	}
	told := map[api.Errno]int{}
	for range 20000 {
		origin := uint32(next() % (diskEnd >> (next() % 20)))
		sectors := origin + 15 + uint32(next()%(diskEnd>>(next()%20)))
		letters, behind := "OAK1", 0
		switch next() % 8 {
		case 0:
			letters = "OAKS"
		case 1:
			sectors = uint32(next())
		case 2:
			behind = int(next() % 2)
		}
		body := bodyOf(letters, sectors, origin, uint32(next()%130))
		body = with(body, superSize+int(next()%(bodySize-superSize)), byte(behind))
		_, err := toldOf(body)
		told[err]++
		checkTold(t, body)
	}
	if told[api.OK] < 8000 || told[api.ErrMagic] < 1000 || told[api.ErrForm] < 1000 {
		t.Errorf("of each kind so many were tried: %v", told)
	}
}

// The rules that hold everywhere: with an error all else is zero (checked above), what is handed in stays.

func TestSupersStay(t *testing.T) {
	for _, want := range append(rightSupers()[:50], wrongSupers()[:50]...) {
		x := want
		Right(x)
		Encode(x)
		if x != want {
			t.Errorf("the superblock %v is %v now", want, x)
		}
	}
	b := []byte(mustEncode(t, superOf(57, 40, 4)))
	kept := slices.Clone(b)
	x, _ := Decode(string(b))
	x.Sectors, x.Chunk = 80, 9
	if again, err := Decode(string(b)); again != superOf(57, 40, 4) || err != api.OK || !slices.Equal(b, kept) {
		t.Errorf("behind an answer that was written into: %v, %d", again, err)
	}
}

// P1, P2: every call ends, none panics, and each answers the same again, whatever was called in between.

func TestTheSameAgain(t *testing.T) {
	texts := []string{strings.Repeat("\x00", 1<<20), sealedOf(strings.Repeat("\x00", bodySize)), sealedOf(strings.Repeat("\xff", bodySize))}
	for length := range 140 {
		texts = append(texts, strings.Repeat("\x00", length), strings.Repeat("\xff", length), strings.Repeat("OAK1", 35)[:length])
	}
	for _, x := range append(rightSupers(), wrongSupers()...) {
		right := Right(x)
		s, err := Encode(x)
		Encode(superOf(80, 4, 2))
		Encode(superOf(-1, -1, -1))
		if again, errAgain := Encode(x); again != s || errAgain != err || Right(x) != right || right != (err == api.OK) {
			t.Errorf("Encode(%v) = %q, %d, then %q, %d", x, s, err, again, errAgain)
		}
		texts = append(texts, s, sectorOf(x))
	}
	other := sectorOf(superOf(80, 4, 2))
	for _, s := range texts {
		x, err := Decode(s)
		Decode(other)
		Decode("OAK1")
		if x2, err2 := Decode(s); x2 != x || err2 != err {
			t.Errorf("Decode(%q) = %v, %d, then %v, %d", s, x, err, x2, err2)
		}
	}
}
