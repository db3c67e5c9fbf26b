package slot

import (
	"encoding/binary"
	"hash/crc32"
	"math"
	"slices"
	"strings"
	"testing"

	"oakum/api"
)

const (
	diskEnd  = 1048576 // 2^20
	bodySize = 60      // bytes ahead of the sum
	slotSize = 17      // bytes of the letters and the numbers
)

// zeros are the bytes of a body behind a slot.
var zeros = strings.Repeat("\x00", bodySize-slotSize)

// sealedOf is a body's sealed bytes, as the library has the sum and its bytes.
func sealedOf(body string) string {
	return string(binary.LittleEndian.AppendUint32([]byte(body), crc32.ChecksumIEEE([]byte(body))))
}

// bodyOf is what stands ahead of a sector's sum, by the chapter's words, as the library has the numbers' bytes.
func bodyOf(letters string, state byte, start, length, gen uint32) string {
	b := append([]byte(letters), state)
	for _, n := range []uint32{start, length, gen} {
		b = binary.LittleEndian.AppendUint32(b, n)
	}
	return string(b) + strings.Repeat("\x00", bodySize-len(b))
}

// sectorOf is a slot's sector, by the chapter's words.
func sectorOf(x api.Slot) string {
	return sealedOf(bodyOf("OAKS", byte(x.State), uint32(x.Store.Start), uint32(x.Store.Len), x.Gen))
}

// toldOf is what Decode tells of a body that is sealed, by the chapter's words.
func toldOf(body string) (api.Slot, api.Errno) {
	b := []byte(body)
	state, start, length, gen := b[4], binary.LittleEndian.Uint32(b[5:9]), binary.LittleEndian.Uint32(b[9:13]), binary.LittleEndian.Uint32(b[13:17])
	free := state == 0 && start == 0 && length == 0
	taken := (state == 1 || state == 2) && gen != 0 && length != 0 && uint64(start)+uint64(length) <= diskEnd
	switch {
	case body[:4] != "OAKS":
		return api.Slot{}, api.ErrMagic
	case !free && !taken, body[slotSize:] != zeros:
		return api.Slot{}, api.ErrForm
	}
	return slotOf(api.State(state), int(start), int(length), gen), api.OK
}

func slotOf(state api.State, start, length int, gen uint32) api.Slot {
	return api.Slot{State: state, Store: api.Extent{Start: start, Len: length}, Gen: gen}
}

// takenStates are those of a slot whose store is somewhere.
func takenStates() []api.State { return []api.State{api.Used, api.Merging} }

// wrongStates are none of the three; of some of them the lowest byte alone, or the lowest four, are those of one.
func wrongStates() []api.State {
	return []api.State{
		-1, -2, -3, -254, -255, -256, -1<<16 + 1, math.MinInt32, -1<<32 + 1, math.MinInt, math.MinInt + 1, math.MinInt + 2,
		3, 4, 127, 128, 129, 255, 256, 257, 258, 259, 1<<16 + 1, 1<<24 + 2, math.MaxInt32, 1 << 32, 1<<32 + 1, 1<<32 + 2, math.MaxInt - 1, math.MaxInt,
	}
}

func rightGens() []uint32 {
	return []uint32{1, 2, 255, 256, 258, 65535, 65536, 1<<31 - 1, 1 << 31, math.MaxUint32 - 1, math.MaxUint32}
}

func rightStores() []api.Extent {
	return []api.Extent{
		{Start: 0, Len: 1}, {Start: 0, Len: 2}, {Start: 0, Len: 255}, {Start: 0, Len: 65536}, {Start: 0, Len: diskEnd - 1}, {Start: 0, Len: diskEnd},
		{Start: 1, Len: 1}, {Start: 1, Len: diskEnd - 2}, {Start: 1, Len: diskEnd - 1}, {Start: 40, Len: 8}, {Start: 8, Len: 40}, {Start: 256, Len: 256},
		{Start: 65535, Len: 65537}, {Start: diskEnd / 2, Len: diskEnd/2 - 1}, {Start: diskEnd / 2, Len: diskEnd / 2},
		{Start: diskEnd - 2, Len: 1}, {Start: diskEnd - 2, Len: 2}, {Start: diskEnd - 1, Len: 1},
	}
}

// wrongStores can't be a snapshot's; of some of them the sum, or the lowest four bytes alone, are those of one that can.
func wrongStores() []api.Extent {
	return []api.Extent{
		{}, {Start: 1}, {Start: 40}, {Start: diskEnd - 1}, {Start: diskEnd},
		{Start: 0, Len: -1}, {Start: 1, Len: -1}, {Start: 2, Len: -1}, {Start: diskEnd, Len: -1}, {Start: diskEnd + 1, Len: -1}, {Start: 40, Len: math.MinInt},
		{Start: math.MinInt, Len: math.MinInt}, {Start: math.MinInt + 1, Len: math.MinInt}, {Start: 0, Len: -1<<32 + 1}, {Start: 0, Len: -1<<32 + diskEnd},
		{Start: -1, Len: 1}, {Start: -1, Len: 2}, {Start: -1, Len: diskEnd}, {Start: -1, Len: diskEnd + 1}, {Start: -40, Len: 80}, {Start: -diskEnd, Len: diskEnd},
		{Start: math.MinInt, Len: 1}, {Start: math.MinInt, Len: math.MaxInt}, {Start: math.MinInt + 1, Len: math.MaxInt}, {Start: -1 << 32, Len: 1}, {Start: -1<<32 + 40, Len: 8},
		{Start: 0, Len: diskEnd + 1}, {Start: 1, Len: diskEnd}, {Start: 2, Len: diskEnd}, {Start: 2, Len: diskEnd - 1}, {Start: 1, Len: diskEnd + 1},
		{Start: diskEnd / 2, Len: diskEnd/2 + 1}, {Start: diskEnd - 1, Len: 2}, {Start: diskEnd - 1, Len: diskEnd}, {Start: diskEnd, Len: 1}, {Start: diskEnd, Len: diskEnd},
		{Start: diskEnd + 1, Len: 1}, {Start: diskEnd + 1}, {Start: diskEnd + 1, Len: diskEnd + 1}, {Start: 0, Len: 1 << 31}, {Start: 1 << 31, Len: 1}, {Start: 1 << 31, Len: 1 << 31},
		{Start: math.MaxUint32, Len: 1}, {Start: math.MaxUint32, Len: 2}, {Start: 1, Len: math.MaxUint32}, {Start: 2, Len: math.MaxUint32}, {Start: math.MaxUint32, Len: math.MaxUint32},
		{Start: 1 << 32, Len: 1}, {Start: 1<<32 + 40, Len: 8}, {Start: 40, Len: 1<<32 + 8}, {Start: 1 << 32, Len: 1 << 32}, {Start: 1<<32 + 1, Len: 1<<32 + 1}, {Start: 1<<32 + diskEnd - 1, Len: 1},
		{Start: 0, Len: 1<<32 + diskEnd}, {Start: math.MaxInt, Len: 1}, {Start: math.MaxInt, Len: 2}, {Start: 1, Len: math.MaxInt}, {Start: 2, Len: math.MaxInt}, {Start: diskEnd, Len: math.MaxInt},
		{Start: math.MaxInt, Len: diskEnd}, {Start: math.MaxInt, Len: math.MaxInt}, {Start: 1<<62 + 1, Len: 1 << 62}, {Start: 1 << 62, Len: 1 << 62}, {Start: math.MaxInt, Len: math.MinInt}, {Start: math.MaxInt, Len: math.MinInt + 2},
	}
}

func rightSlots() (l []api.Slot) {
	for _, gen := range append(rightGens(), 0) {
		l = append(l, api.Slot{State: api.Free, Gen: gen})
	}
	for _, state := range takenStates() {
		for _, store := range rightStores() {
			for _, gen := range rightGens() {
				l = append(l, api.Slot{State: state, Store: store, Gen: gen})
			}
		}
	}
	return l
}

// wrongSlots may not be: by one of state, store and generation, or by several.
func wrongSlots() (l []api.Slot) {
	stores := append(rightStores(), wrongStores()...)
	for _, store := range stores {
		for _, gen := range []uint32{0, 1, 7, math.MaxUint32} {
			if store != (api.Extent{}) {
				l = append(l, api.Slot{State: api.Free, Store: store, Gen: gen})
			}
			for _, state := range wrongStates() {
				l = append(l, api.Slot{State: state, Store: store, Gen: gen})
			}
		}
		for _, state := range takenStates() {
			l = append(l, api.Slot{State: state, Store: store, Gen: 0})
		}
	}
	for _, state := range takenStates() {
		for _, store := range wrongStores() {
			for _, gen := range rightGens() {
				l = append(l, api.Slot{State: state, Store: store, Gen: gen})
			}
		}
	}
	return l
}

// with is a text whose byte at a place is another one.
func with(s string, at int, b byte) string { return s[:at] + string([]byte{b}) + s[at+1:] }

func mustEncode(t *testing.T, x api.Slot) string {
	t.Helper()
	s, err := Encode(x)
	if err != api.OK || len(s) != 64 {
		t.Fatalf("Encode(%v) = %q, %d", x, s, err)
	}
	return s
}

func checkRefused(t *testing.T, s string, want api.Errno) {
	t.Helper()
	if x, err := Decode(s); x != (api.Slot{}) || err != want {
		t.Errorf("Decode(%q) = %v, %d, want error %d", s, x, err, want)
	}
}

// checkTold holds what is decoded of a sealed body against the chapter's words, and encodes it again.
func checkTold(t *testing.T, body string) {
	t.Helper()
	s := sealedOf(body)
	want, wantErr := toldOf(body)
	x, err := Decode(s)
	if x != want || err != wantErr {
		t.Errorf("Decode of sealed %q = %v, %d, want %v, %d", body, x, err, want, wantErr)
	}
	if err != api.OK {
		return
	}
	if again, errAgain := Encode(x); again != s || errAgain != api.OK {
		t.Errorf("Decode of sealed %q, and Encode: %q, %d", body, again, errAgain)
	}
}

// P8.1, L1: Right.

func TestRight(t *testing.T) {
	for _, x := range rightSlots() {
		if !Right(x) {
			t.Errorf("Right(%v) is false", x)
		}
	}
	for _, x := range wrongSlots() {
		if Right(x) {
			t.Errorf("Right(%v) is true", x)
		}
	}
}

func TestRightOfAFreeSlot(t *testing.T) {
	for _, c := range []struct {
		x    api.Slot
		want bool
	}{
		{api.Slot{}, true},
		{slotOf(api.Free, 0, 0, 0), true},
		{slotOf(api.Free, 0, 0, 1), true},
		{slotOf(api.Free, 0, 0, math.MaxUint32), true},
		{slotOf(api.Free, 1, 0, 0), false},
		{slotOf(api.Free, 0, 1, 0), false},
		{slotOf(api.Free, 1, 1, 1), false},
		{slotOf(api.Free, -1, 0, 1), false},
		{slotOf(api.Free, 0, -1, 1), false},
		{slotOf(api.Free, 1, -1, 1), false},
		{slotOf(api.Free, 40, 8, 7), false},
		{slotOf(api.Free, 0, diskEnd, 7), false},
		{slotOf(api.Free, 1<<32, 0, 7), false},
		{slotOf(api.Free, 0, 1<<32, 7), false},
	} {
		if got := Right(c.x); got != c.want {
			t.Errorf("Right(%v) = %t", c.x, got)
		}
	}
}

func TestRightOfASlotThatIsTaken(t *testing.T) {
	for _, c := range []struct {
		start, length int
		gen           uint32
		want          bool
	}{
		{0, 0, 0, false},
		{0, 0, 1, false},
		{40, 8, 0, false},
		{40, 8, 1, true},
		{40, 8, math.MaxUint32, true},
		{-1, 1, 1, false},
		{-1, 2, 1, false},
		{0, 1, 1, true},
		{diskEnd - 1, 1, 1, true},
		{diskEnd - 1, 2, 1, false},
		{diskEnd, 0, 1, false},
		{diskEnd, 1, 1, false},
		{diskEnd + 1, 1, 1, false},
		{diskEnd + 1, -1, 1, false},
		{0, -1, 1, false},
		{1, 0, 1, false},
		{0, diskEnd, 1, true},
		{1, diskEnd - 1, 1, true},
		{1, diskEnd, 1, false},
		{0, diskEnd + 1, 1, false},
		{-1, diskEnd + 1, 1, false},
		{math.MaxInt, math.MaxInt, 1, false},
		{math.MaxInt, math.MinInt + 2, 1, false},
		{1<<32 + 40, 8, 1, false},
		{40, 1<<32 + 8, 1, false},
		{1<<62 + 1<<61, 1<<62 + 1<<61, 1, false},
	} {
		for _, state := range takenStates() {
			x := slotOf(state, c.start, c.length, c.gen)
			if got := Right(x); got != c.want {
				t.Errorf("Right(%v) = %t", x, got)
			}
		}
	}
}

// Each start up to behind a disk's end, with the greatest length that it leaves, and with one more.
func TestRightWhereAStoreEnds(t *testing.T) {
	for start := -2; start <= diskEnd+2; start++ {
		left := diskEnd - start
		for _, length := range []int{-1, 0, 1, left, left + 1} {
			x := slotOf(api.Used+api.State(start&1), start, length, 7)
			want := start >= 0 && length >= 1 && length <= left
			if got := Right(x); got != want {
				t.Fatalf("Right(%v) = %t", x, got)
			}
		}
	}
}

func TestRightOfEachState(t *testing.T) {
	for state := api.State(-70000); state <= 70000; state++ {
		if got := Right(slotOf(state, 40, 8, 7)); got != (state == 1 || state == 2) {
			t.Errorf("Right of state %d, with a store = %t", state, got)
		}
		if got := Right(slotOf(state, 0, 0, 7)); got != (state == 0) {
			t.Errorf("Right of state %d, without a store = %t", state, got)
		}
	}
}

// P8.1, L1: Encode.

func TestEncode(t *testing.T) {
	for _, c := range []struct {
		x    api.Slot
		want string
	}{
		{api.Slot{}, "OAKS\x00\x00\x00\x00\x00\x00\x00\x00\x00\x00\x00\x00\x00" + zeros},
		{slotOf(api.Free, 0, 0, 5), "OAKS\x00\x00\x00\x00\x00\x00\x00\x00\x00\x05\x00\x00\x00" + zeros},
		{slotOf(api.Free, 0, 0, math.MaxUint32), "OAKS\x00\x00\x00\x00\x00\x00\x00\x00\x00\xff\xff\xff\xff" + zeros},
		{slotOf(api.Used, 40, 8, 7), "OAKS\x01\x28\x00\x00\x00\x08\x00\x00\x00\x07\x00\x00\x00" + zeros},
		{slotOf(api.Merging, 40, 8, 7), "OAKS\x02\x28\x00\x00\x00\x08\x00\x00\x00\x07\x00\x00\x00" + zeros},
		{slotOf(api.Used, 0, 1, 1), "OAKS\x01\x00\x00\x00\x00\x01\x00\x00\x00\x01\x00\x00\x00" + zeros},
		{slotOf(api.Merging, 0x030201, 0x060504, 0x0a090807), "OAKS\x02\x01\x02\x03\x00\x04\x05\x06\x00\x07\x08\x09\x0a" + zeros},
		{slotOf(api.Used, 0, 1<<20, math.MaxUint32), "OAKS\x01\x00\x00\x00\x00\x00\x00\x10\x00\xff\xff\xff\xff" + zeros},
		{slotOf(api.Merging, 1<<20-1, 1, 1<<24), "OAKS\x02\xff\xff\x0f\x00\x01\x00\x00\x00\x00\x00\x00\x01" + zeros},
	} {
		if got, err := Encode(c.x); got != sealedOf(c.want) || err != api.OK || len(got) != 64 {
			t.Errorf("Encode(%v) = %q, %d, want %q", c.x, got, err, sealedOf(c.want))
		}
	}
}

func TestEncodeOfEachSlot(t *testing.T) {
	for _, x := range rightSlots() {
		if got, err := Encode(x); got != sectorOf(x) || err != api.OK {
			t.Errorf("Encode(%v) = %q, %d, want %q", x, got, err, sectorOf(x))
		}
	}
}

func TestEncodeOfSlotsThatMayNotBe(t *testing.T) {
	for _, x := range wrongSlots() {
		if got, err := Encode(x); got != "" || err != api.ErrArg {
			t.Errorf("Encode(%v) = %q, %d, want ErrArg", x, got, err)
		}
	}
}

// P8.1, L1: Decode.

func TestDecode(t *testing.T) {
	for _, c := range []struct {
		body string
		want api.Slot
	}{
		{"OAKS\x00\x00\x00\x00\x00\x00\x00\x00\x00\x00\x00\x00\x00" + zeros, api.Slot{}},
		{"OAKS\x00\x00\x00\x00\x00\x00\x00\x00\x00\x05\x00\x00\x00" + zeros, slotOf(api.Free, 0, 0, 5)},
		{"OAKS\x01\x28\x00\x00\x00\x08\x00\x00\x00\x07\x00\x00\x00" + zeros, slotOf(api.Used, 40, 8, 7)},
		{"OAKS\x02\x01\x02\x03\x00\x04\x05\x06\x00\x07\x08\x09\x0a" + zeros, slotOf(api.Merging, 0x030201, 0x060504, 0x0a090807)},
		{"OAKS\x01\x00\x00\x00\x00\x00\x00\x10\x00\xff\xff\xff\xff" + zeros, slotOf(api.Used, 0, 1<<20, math.MaxUint32)},
		{"OAKS\x02\xff\xff\x0f\x00\x01\x00\x00\x00\x01\x00\x00\x00" + zeros, slotOf(api.Merging, 1<<20-1, 1, 1)},
	} {
		if x, err := Decode(sealedOf(c.body)); x != c.want || err != api.OK {
			t.Errorf("Decode of sealed %q = %v, %d, want %v", c.body, x, err, c.want)
		}
	}
}

// someSlots is one of each state, and two at the edges of what may be.
func someSlots() []api.Slot {
	return []api.Slot{
		slotOf(api.Free, 0, 0, 258), slotOf(api.Used, 40, 8, 7), slotOf(api.Merging, 258, 700, 1<<31),
		slotOf(api.Used, 0, diskEnd, math.MaxUint32), slotOf(api.Merging, diskEnd-1, 1, 1),
	}
}

// Bytes of another length are cut, also those that begin with a slot's sector, or are sealed themselves.
func TestDecodeOfAnotherLength(t *testing.T) {
	s := mustEncode(t, slotOf(api.Used, 40, 8, 7))
	checkRefused(t, "", api.ErrCut)
	for length := range 200 {
		if length == 64 {
			continue
		}
		checkRefused(t, strings.Repeat(s, 4)[:length], api.ErrCut)
		checkRefused(t, strings.Repeat("\x00", length), api.ErrCut)
		checkRefused(t, strings.Repeat("\xff", length), api.ErrCut)
		if length >= 4 {
			checkRefused(t, sealedOf(strings.Repeat("\x00", length-4)), api.ErrCut)
			checkRefused(t, sealedOf((s[:bodySize] + strings.Repeat("\x00", 200))[:length-4]), api.ErrCut)
		}
	}
	checkRefused(t, s[:63], api.ErrCut)
	checkRefused(t, s+"\x00", api.ErrCut)
	checkRefused(t, "\x00"+s, api.ErrCut)
	checkRefused(t, s[1:], api.ErrCut)
	checkRefused(t, s+s, api.ErrCut)
	checkRefused(t, strings.Repeat(s, 64), api.ErrCut)
	checkRefused(t, strings.Repeat("\x00", 1<<20), api.ErrCut)
}

// Each bit of a sector, and each byte, wherever it stands, is one that the sum holds.
func TestDecodeOfOneByteThatIsAnother(t *testing.T) {
	for _, x := range someSlots() {
		s := mustEncode(t, x)
		for at := range s {
			for bit := range 8 {
				checkRefused(t, with(s, at, s[at]^1<<bit), api.ErrSum)
			}
			for other := range 256 {
				if byte(other) != s[at] {
					checkRefused(t, with(s, at, byte(other)), api.ErrSum)
				}
			}
		}
	}
}

func TestDecodeOfBytesWithoutASum(t *testing.T) {
	s := mustEncode(t, slotOf(api.Used, 40, 8, 7))
	for _, wrong := range []string{
		strings.Repeat("\x00", 64), strings.Repeat("\x01", 64), strings.Repeat("\xff", 64), strings.Repeat("OAKS", 16),
		s[1:] + s[:1], s[4:] + s[:4], s[:60] + "\x00\x00\x00\x00", s[:60] + s[63:] + s[62:63] + s[61:62] + s[60:61],
	} {
		checkRefused(t, wrong, api.ErrSum)
	}
}

func TestDecodeOfOtherLetters(t *testing.T) {
	for _, x := range someSlots() {
		body := mustEncode(t, x)[:bodySize]
		for _, letters := range []string{
			"OAKH", "OAK1", "OAKP", "OAK\x00", "oaks", "OAKs", "SKAO", "AOKS", "\x00\x00\x00\x00", "\xff\xff\xff\xff", "    ", "KSOA", "0AKS", " OAK", "AKSO",
		} {
			checkRefused(t, sealedOf(letters+body[4:]), api.ErrMagic)
		}
		for at := range 4 {
			for other := range 256 {
				if byte(other) != body[at] {
					checkRefused(t, sealedOf(with(body, at, byte(other))), api.ErrMagic)
				}
			}
		}
		// The letters stand there, but not at the beginning.
		checkRefused(t, sealedOf("\x00"+body[:bodySize-1]), api.ErrMagic)
		checkRefused(t, sealedOf(body[1:]+"\x00"), api.ErrMagic)
		checkRefused(t, sealedOf(body[4:]+"OAKS"), api.ErrMagic)
	}
}

// 64 bytes 0 are not sealed, and sealed bytes 0 begin with other letters; behind the right ones they are a Free slot's.
func TestDecodeOfBytesZero(t *testing.T) {
	checkRefused(t, strings.Repeat("\x00", 64), api.ErrSum)
	checkRefused(t, sealedOf(strings.Repeat("\x00", bodySize)), api.ErrMagic)
	if x, err := Decode(sealedOf("OAKS" + strings.Repeat("\x00", bodySize-4))); x != (api.Slot{}) || err != api.OK {
		t.Errorf("Decode of the letters, and bytes 0 = %v, %d", x, err)
	}
}

func TestDecodeOfStatesThatAreNone(t *testing.T) {
	for state := 3; state < 256; state++ {
		checkRefused(t, sealedOf(bodyOf("OAKS", byte(state), 40, 8, 7)), api.ErrForm)
		checkRefused(t, sealedOf(bodyOf("OAKS", byte(state), 0, 0, 7)), api.ErrForm)
		checkRefused(t, sealedOf(bodyOf("OAKS", byte(state), 0, 0, 0)), api.ErrForm)
	}
}

func TestDecodeOfAFreeSlotWithAStore(t *testing.T) {
	for _, gen := range []uint32{0, 1, 7, math.MaxUint32} {
		for _, n := range []uint32{1, 8, 256, 1 << 16, 1 << 20, 1<<20 + 1, 1 << 24, 1 << 31, math.MaxUint32} {
			checkRefused(t, sealedOf(bodyOf("OAKS", 0, n, 0, gen)), api.ErrForm)
			checkRefused(t, sealedOf(bodyOf("OAKS", 0, 0, n, gen)), api.ErrForm)
			checkRefused(t, sealedOf(bodyOf("OAKS", 0, n, n, gen)), api.ErrForm)
			checkRefused(t, sealedOf(bodyOf("OAKS", 0, n, -n, gen)), api.ErrForm)
		}
	}
}

func TestDecodeOfNumbersThatMayNotBe(t *testing.T) {
	for _, state := range []byte{1, 2} {
		for _, store := range rightStores() {
			checkRefused(t, sealedOf(bodyOf("OAKS", state, uint32(store.Start), uint32(store.Len), 0)), api.ErrForm)
			checkRefused(t, sealedOf(bodyOf("OAKS", state, uint32(store.Start), 0, 7)), api.ErrForm)
		}
		for _, store := range [][2]uint32{
			{0, 0}, {0, diskEnd + 1}, {1, diskEnd}, {2, diskEnd}, {diskEnd / 2, diskEnd/2 + 1}, {diskEnd - 1, 2}, {diskEnd, 0}, {diskEnd, 1}, {diskEnd + 1, 1}, {diskEnd, diskEnd},
			{0, 1 << 21}, {1 << 21, 1}, {0, 1 << 24}, {1 << 24, 1}, {0, 1 << 31}, {1 << 31, 1}, {1 << 31, 1 << 31}, {1<<31 + 1, 1 << 31},
			{math.MaxUint32, 1}, {math.MaxUint32, 2}, {1, math.MaxUint32}, {2, math.MaxUint32}, {math.MaxUint32, math.MaxUint32}, {math.MaxUint32 - 39, 80},
		} {
			for _, gen := range rightGens() {
				checkRefused(t, sealedOf(bodyOf("OAKS", state, store[0], store[1], gen)), api.ErrForm)
			}
		}
	}
}

func TestDecodeOfBytesBehindTheSlot(t *testing.T) {
	for _, x := range someSlots() {
		body := mustEncode(t, x)[:bodySize]
		for at := slotSize; at < bodySize; at++ {
			for other := 1; other < 256; other++ {
				checkRefused(t, sealedOf(with(body, at, byte(other))), api.ErrForm)
			}
		}
		checkRefused(t, sealedOf(body[:slotSize]+strings.Repeat("\xff", bodySize-slotSize)), api.ErrForm)
		checkRefused(t, sealedOf(body[:slotSize]+body[:bodySize-slotSize]), api.ErrForm)
	}
}

// Each byte of a body is each other one, and sealed again: what is told is what the chapter's words say.
func TestDecodeOfEachByteSealedAgain(t *testing.T) {
	for _, x := range someSlots() {
		body := mustEncode(t, x)[:bodySize]
		for at := range body {
			for other := range 256 {
				checkTold(t, with(body, at, byte(other)))
			}
		}
	}
}

// Of several that are wrong the first one is told: the length, the sum, the letters, what is said.
func TestDecodeOfSeveralThatAreWrong(t *testing.T) {
	for _, form := range []string{
		bodyOf("OAKS", 0, 1, 0, 7), bodyOf("OAKS", 1, 40, 8, 0), bodyOf("OAKS", 2, 40, 0, 7), bodyOf("OAKS", 3, 40, 8, 7), bodyOf("OAKS", 1, diskEnd, 1, 7),
		bodyOf("OAKS", 255, diskEnd+1, diskEnd+1, 0), with(bodyOf("OAKS", 1, 40, 8, 7), 59, 1), "OAKS" + strings.Repeat("\xff", 56),
	} {
		magic := "OAKH" + form[4:]
		checkRefused(t, sealedOf(form), api.ErrForm)
		checkRefused(t, sealedOf(magic), api.ErrMagic)
		for _, s := range []string{sealedOf(form), sealedOf(magic)} {
			for at := range s {
				checkRefused(t, with(s, at, s[at]^1), api.ErrSum)
			}
			for _, wrong := range []string{s, with(s, 3, 'x'), with(s, 63, s[63]^128)} {
				checkRefused(t, wrong[:63], api.ErrCut)
				checkRefused(t, wrong[:60], api.ErrCut)
				checkRefused(t, wrong+"\x00", api.ErrCut)
			}
		}
		checkRefused(t, sealedOf(form[:59]), api.ErrCut)
		checkRefused(t, sealedOf(magic+"\x00"), api.ErrCut)
	}
}

// P8.2: there and back.

func TestWhatIsEncodedIsDecoded(t *testing.T) {
	for _, want := range rightSlots() {
		if got, err := Decode(mustEncode(t, want)); got != want || err != api.OK {
			t.Errorf("Encode(%v), and Decode: %v, %d", want, got, err)
		}
	}
}

// Two slots that are not the same have sectors that are not.
func TestEachSlotHasItsOwnSector(t *testing.T) {
	seen := map[string]api.Slot{}
	for _, x := range rightSlots() {
		s := mustEncode(t, x)
		if other, ok := seen[s]; ok {
			t.Errorf("%v and %v have one sector", x, other)
		}
		seen[s] = x
	}
}

// Sealed bytes are a slot's just if they say nothing that is none's, and then they are encoded to themselves.
func TestWhatIsDecodedIsEncoded(t *testing.T) {
	seed := uint64(88172645463325252)
	next := func() uint64 {
		seed ^= seed << 13
		seed ^= seed >> 7
		seed ^= seed << 17
		return seed >> 8
	}
	told := map[api.Errno]int{}
	for range 20000 {
		state, start, length := byte(next()%3), uint32(next()%diskEnd), uint32(next()%diskEnd)
		if state == 0 || next()%16 == 0 {
			start, length = 0, uint32(next()%8/7)
		}
		letters, behind := "OAKS", 0
		switch next() % 8 {
		case 0:
			letters = "OAKH"
		case 1:
			state = byte(next())
		case 2:
			behind = int(next() % 2)
		}
		body := bodyOf(letters, state, start, length, uint32(next()>>(next()%32)))
		body = with(body, slotSize+int(next()%(bodySize-slotSize)), byte(behind))
		_, err := toldOf(body)
		told[err]++
		checkTold(t, body)
	}
	if told[api.OK] < 8000 || told[api.ErrMagic] < 1000 || told[api.ErrForm] < 1000 {
		t.Errorf("of each kind so many were tried: %v", told)
	}
}

// The rules that hold everywhere: with an error all else is zero (checked above), what is handed in stays.

func TestSlotsStay(t *testing.T) {
	for _, want := range append(rightSlots()[:50], wrongSlots()[:50]...) {
		x := want
		Right(x)
		Encode(x)
		if x != want {
			t.Errorf("the slot %v is %v now", want, x)
		}
	}
	b := []byte(mustEncode(t, slotOf(api.Used, 40, 8, 7)))
	kept := slices.Clone(b)
	x, _ := Decode(string(b))
	x.State, x.Store.Start = api.Merging, 9
	if again, err := Decode(string(b)); again != slotOf(api.Used, 40, 8, 7) || err != api.OK || !slices.Equal(b, kept) {
		t.Errorf("behind an answer that was written into: %v, %d", again, err)
	}
}

// P1, P2: every call ends, and answers the same again, whatever was called in between.

func TestTheSameAgain(t *testing.T) {
	texts := []string{strings.Repeat("\x00", 1<<20), sealedOf(strings.Repeat("\x00", bodySize)), sealedOf(strings.Repeat("\xff", bodySize))}
	for length := range 140 {
		texts = append(texts, strings.Repeat("\x00", length), strings.Repeat("\xff", length), strings.Repeat("OAKS", 35)[:length])
	}
	for _, x := range append(rightSlots(), wrongSlots()...) {
		right := Right(x)
		s, err := Encode(x)
		Encode(slotOf(api.Merging, 77, 7, 7))
		Encode(slotOf(-1, -1, -1, 0))
		if again, errAgain := Encode(x); again != s || errAgain != err || Right(x) != right || right != (err == api.OK) {
			t.Errorf("Encode(%v) = %q, %d, then %q, %d", x, s, err, again, errAgain)
		}
		texts = append(texts, s)
	}
	other := sectorOf(slotOf(api.Merging, 77, 7, 7))
	for _, s := range texts {
		x, err := Decode(s)
		Decode(other)
		Decode("OAKS")
		if x2, err2 := Decode(s); x2 != x || err2 != err {
			t.Errorf("Decode(%q) = %v, %d, then %v, %d", s, x, err, x2, err2)
		}
	}
}
