package head

import (
	"encoding/binary"
	"hash/crc32"
	"math"
	"slices"
	"strings"
	"testing"

	"oakum/api"
)

const (
	greatestChunk = 128
	greatestCap   = 1048576 // 2^20
	bodySize      = 60      // bytes ahead of the sum
)

// zeros are the bytes of a body behind a head.
var zeros = strings.Repeat("\x00", 45)

// sealedOf is a body's sealed bytes, as the library has the sum and its bytes.
func sealedOf(body string) string {
	return string(binary.LittleEndian.AppendUint32([]byte(body), crc32.ChecksumIEEE([]byte(body))))
}

// bodyOf is what stands ahead of a sector's sum, by the chapter's words, as the library has the numbers' bytes.
func bodyOf(letters string, gen uint32, chunk uint16, capacity uint32, last byte) string {
	b := binary.LittleEndian.AppendUint32([]byte(letters), gen)
	b = binary.LittleEndian.AppendUint16(b, chunk)
	b = binary.LittleEndian.AppendUint32(b, capacity)
	b = append(b, last)
	return string(b) + strings.Repeat("\x00", bodySize-len(b))
}

// sectorOf is a head's sector, by the chapter's words.
func sectorOf(h api.Head) string {
	last := byte(0)
	if h.Invalid {
		last = 1
	}
	return sealedOf(bodyOf("OAKH", h.Gen, uint16(h.Chunk), uint32(h.Cap), last))
}

// toldOf is what Decode tells of a body that is sealed, by the chapter's words.
func toldOf(body string) (api.Head, api.Errno) {
	b := []byte(body)
	gen, chunk, capacity := binary.LittleEndian.Uint32(b[4:8]), binary.LittleEndian.Uint16(b[8:10]), binary.LittleEndian.Uint32(b[10:14])
	switch {
	case body[:4] != "OAKH":
		return api.Head{}, api.ErrMagic
	case gen == 0, chunk == 0, chunk > greatestChunk, capacity == 0, capacity > greatestCap, b[14] > 1, body[15:] != zeros:
		return api.Head{}, api.ErrForm
	}
	return api.Head{Gen: gen, Chunk: int(chunk), Cap: int(capacity), Invalid: b[14] == 1}, api.OK
}

func rightGens() []uint32 {
	return []uint32{1, 2, 255, 256, 258, 65535, 65536, 1<<31 - 1, 1 << 31, math.MaxUint32 - 1, math.MaxUint32}
}

func rightChunks() []int { return []int{1, 2, 3, 64, 127, 128} }

func rightCaps() []int {
	return []int{1, 2, 13, 255, 256, 65535, 65536, 65537, greatestCap - 1, greatestCap}
}

// wrongChunks can't be a chunk's sectors; of some of them the lowest two, or four, bytes alone are those of one that may be.
func wrongChunks() []int {
	return []int{
		0, -1, -2, -128, -65535, -65536, -65535 + 4, math.MinInt32, math.MinInt32 + 1, math.MinInt, math.MinInt + 1, math.MinInt + 128,
		129, 130, 255, 256, 257, 32768, 65535, 1 << 16, 1<<16 + 1, 1<<16 + 128, 1 << 24, 1<<24 + 5, 1<<31 + 1,
		1 << 32, 1<<32 + 1, 1<<32 + 128, 1<<48 + 7, math.MaxUint32, math.MaxInt32, math.MaxInt - 1, math.MaxInt,
	}
}

// wrongCaps can't be a store's room; of some of them the lowest four bytes alone are those of one that may be.
func wrongCaps() []int {
	return []int{
		0, -1, -2, -greatestCap, math.MinInt32, -(1 << 32) + 1, -(1 << 32) + greatestCap, math.MinInt, math.MinInt + 1, math.MinInt + greatestCap,
		greatestCap + 1, greatestCap + 2, 1<<21 + 1, 1 << 24, math.MaxInt32, 1 << 31, math.MaxUint32,
		1 << 32, 1<<32 + 1, 1<<32 + greatestCap, 1<<40 + 3, 1<<62 + 1, math.MaxInt - 1, math.MaxInt,
	}
}

func rightHeads() (l []api.Head) {
	for _, gen := range rightGens() {
		for _, chunk := range rightChunks() {
			for _, capacity := range rightCaps() {
				for _, invalid := range []bool{false, true} {
					l = append(l, api.Head{Gen: gen, Chunk: chunk, Cap: capacity, Invalid: invalid})
				}
			}
		}
	}
	return l
}

// wrongHeads may not be: each one, or two, or all three of their numbers.
func wrongHeads() (l []api.Head) {
	for _, invalid := range []bool{false, true} {
		l = append(l, api.Head{Invalid: invalid})
		for _, chunk := range append(rightChunks(), wrongChunks()...) {
			for _, capacity := range append(rightCaps(), wrongCaps()...) {
				l = append(l, api.Head{Gen: 0, Chunk: chunk, Cap: capacity, Invalid: invalid})
			}
		}
		for _, gen := range rightGens() {
			for _, chunk := range wrongChunks() {
				l = append(l, api.Head{Gen: gen, Chunk: chunk, Cap: 1, Invalid: invalid}, api.Head{Gen: gen, Chunk: chunk, Cap: greatestCap, Invalid: invalid})
			}
			for _, capacity := range wrongCaps() {
				l = append(l, api.Head{Gen: gen, Chunk: 1, Cap: capacity, Invalid: invalid}, api.Head{Gen: gen, Chunk: greatestChunk, Cap: capacity, Invalid: invalid})
				l = append(l, api.Head{Gen: gen, Chunk: capacity, Cap: capacity, Invalid: invalid})
			}
		}
	}
	return l
}

// with is a text whose byte at a place is another one.
func with(s string, at int, b byte) string { return s[:at] + string([]byte{b}) + s[at+1:] }

func mustEncode(t *testing.T, h api.Head) string {
	t.Helper()
	s, err := Encode(h)
	if err != api.OK || len(s) != 64 {
		t.Fatalf("Encode(%v) = %q, %d", h, s, err)
	}
	return s
}

func checkRefused(t *testing.T, s string, want api.Errno) {
	t.Helper()
	if h, err := Decode(s); h != (api.Head{}) || err != want {
		t.Errorf("Decode(%q) = %v, %d, want error %d", s, h, err, want)
	}
}

// checkTold holds what is decoded of a sealed body against the chapter's words, and encodes it again.
func checkTold(t *testing.T, body string) {
	t.Helper()
	s := sealedOf(body)
	want, wantErr := toldOf(body)
	h, err := Decode(s)
	if h != want || err != wantErr {
		t.Errorf("Decode of sealed %q = %v, %d, want %v, %d", body, h, err, want, wantErr)
	}
	if err != api.OK {
		return
	}
	if again, errAgain := Encode(h); again != s || errAgain != api.OK {
		t.Errorf("Decode of sealed %q, and Encode: %q, %d", body, again, errAgain)
	}
}

// P7.1, H1: Right.

func TestRight(t *testing.T) {
	for _, h := range rightHeads() {
		if !Right(h) {
			t.Errorf("Right(%v) is false", h)
		}
	}
	for _, h := range wrongHeads() {
		if Right(h) {
			t.Errorf("Right(%v) is true", h)
		}
	}
}

func TestRightAtItsEdges(t *testing.T) {
	for _, c := range []struct {
		h    api.Head
		want bool
	}{
		{api.Head{}, false},
		{api.Head{Invalid: true}, false},
		{api.Head{Gen: 1, Chunk: 1, Cap: 1}, true},
		{api.Head{Gen: 1, Chunk: 1, Cap: 1, Invalid: true}, true},
		{api.Head{Gen: 0, Chunk: 1, Cap: 1}, false},
		{api.Head{Gen: math.MaxUint32, Chunk: 1, Cap: 1}, true},
		{api.Head{Gen: 1, Chunk: -1, Cap: 1}, false},
		{api.Head{Gen: 1, Chunk: 0, Cap: 1}, false},
		{api.Head{Gen: 1, Chunk: 128, Cap: 1}, true},
		{api.Head{Gen: 1, Chunk: 129, Cap: 1}, false},
		{api.Head{Gen: 1, Chunk: 1, Cap: -1}, false},
		{api.Head{Gen: 1, Chunk: 1, Cap: 0}, false},
		{api.Head{Gen: 1, Chunk: 1, Cap: 1 << 20}, true},
		{api.Head{Gen: 1, Chunk: 1, Cap: 1<<20 + 1}, false},
		{api.Head{Gen: math.MaxUint32, Chunk: 128, Cap: 1 << 20, Invalid: true}, true},
		{api.Head{Gen: 1, Chunk: 1<<16 + 1, Cap: 1}, false},
		{api.Head{Gen: 1, Chunk: 1<<32 + 1, Cap: 1}, false},
		{api.Head{Gen: 1, Chunk: 1, Cap: 1<<32 + 1}, false},
	} {
		if got := Right(c.h); got != c.want {
			t.Errorf("Right(%v) = %t", c.h, got)
		}
	}
	for n := -70000; n <= 70000; n++ {
		if got := Right(api.Head{Gen: 1, Chunk: n, Cap: 1}); got != (n >= 1 && n <= greatestChunk) {
			t.Errorf("Right of a chunk of %d = %t", n, got)
		}
	}
	for n := -2; n <= greatestCap+70000; n++ {
		if got := Right(api.Head{Gen: 1, Chunk: 1, Cap: n}); got != (n >= 1 && n <= greatestCap) {
			t.Errorf("Right of room for %d = %t", n, got)
		}
	}
}

// P7.1, H1: Encode.

func TestEncode(t *testing.T) {
	for _, c := range []struct {
		h    api.Head
		want string
	}{
		{api.Head{Gen: 3, Chunk: 128, Cap: 700}, "OAKH\x03\x00\x00\x00\x80\x00\xbc\x02\x00\x00\x00" + zeros},
		{api.Head{Gen: 3, Chunk: 128, Cap: 700, Invalid: true}, "OAKH\x03\x00\x00\x00\x80\x00\xbc\x02\x00\x00\x01" + zeros},
		{api.Head{Gen: 1, Chunk: 1, Cap: 1}, "OAKH\x01\x00\x00\x00\x01\x00\x01\x00\x00\x00\x00" + zeros},
		{api.Head{Gen: 0x04030201, Chunk: 5, Cap: 0x080706, Invalid: true}, "OAKH\x01\x02\x03\x04\x05\x00\x06\x07\x08\x00\x01" + zeros},
		{api.Head{Gen: math.MaxUint32, Chunk: 128, Cap: 1 << 20, Invalid: true}, "OAKH\xff\xff\xff\xff\x80\x00\x00\x00\x10\x00\x01" + zeros},
	} {
		if got, err := Encode(c.h); got != sealedOf(c.want) || err != api.OK || len(got) != 64 {
			t.Errorf("Encode(%v) = %q, %d, want %q", c.h, got, err, sealedOf(c.want))
		}
	}
}

func TestEncodeOfEachHead(t *testing.T) {
	for _, h := range rightHeads() {
		if got, err := Encode(h); got != sectorOf(h) || err != api.OK {
			t.Errorf("Encode(%v) = %q, %d, want %q", h, got, err, sectorOf(h))
		}
	}
}

func TestEncodeOfHeadsThatMayNotBe(t *testing.T) {
	for _, h := range wrongHeads() {
		if got, err := Encode(h); got != "" || err != api.ErrArg {
			t.Errorf("Encode(%v) = %q, %d, want ErrArg", h, got, err)
		}
	}
}

// P7.1, H1: Decode.

func TestDecode(t *testing.T) {
	for _, c := range []struct {
		body string
		want api.Head
	}{
		{"OAKH\x03\x00\x00\x00\x80\x00\xbc\x02\x00\x00\x00" + zeros, api.Head{Gen: 3, Chunk: 128, Cap: 700}},
		{"OAKH\x01\x00\x00\x00\x01\x00\x01\x00\x00\x00\x01" + zeros, api.Head{Gen: 1, Chunk: 1, Cap: 1, Invalid: true}},
		{"OAKH\x01\x02\x03\x04\x05\x00\x06\x07\x08\x00\x00" + zeros, api.Head{Gen: 0x04030201, Chunk: 5, Cap: 0x080706}},
		{"OAKH\xff\xff\xff\xff\x80\x00\x00\x00\x10\x00\x01" + zeros, api.Head{Gen: math.MaxUint32, Chunk: 128, Cap: 1 << 20, Invalid: true}},
	} {
		if h, err := Decode(sealedOf(c.body)); h != c.want || err != api.OK {
			t.Errorf("Decode of sealed %q = %v, %d, want %v", c.body, h, err, c.want)
		}
	}
}

// Bytes of another length are cut, also those that begin with a head's sector, or are sealed themselves.
func TestDecodeOfAnotherLength(t *testing.T) {
	s := mustEncode(t, api.Head{Gen: 258, Chunk: 4, Cap: 700})
	checkRefused(t, "", api.ErrCut)
	for length := range 200 {
		if length == 64 {
			continue
		}
		checkRefused(t, strings.Repeat(s, 4)[:length], api.ErrCut)
		checkRefused(t, strings.Repeat("\x00", length), api.ErrCut)
		checkRefused(t, strings.Repeat("\xff", length), api.ErrCut)
		if length >= 4 {
			checkRefused(t, sealedOf(strings.Repeat("\x00", length-4)), api.ErrCut)
			checkRefused(t, sealedOf((s[:bodySize] + strings.Repeat("\x00", 200))[:length-4]), api.ErrCut)
		}
	}
	checkRefused(t, s[:63], api.ErrCut)
	checkRefused(t, s+"\x00", api.ErrCut)
	checkRefused(t, "\x00"+s, api.ErrCut)
	checkRefused(t, s[1:], api.ErrCut)
	checkRefused(t, s+s, api.ErrCut)
	checkRefused(t, strings.Repeat(s, 64), api.ErrCut)
	checkRefused(t, strings.Repeat("\x00", 1<<20), api.ErrCut)
}

// Each bit of a sector, and each byte, wherever it stands, is one that the sum holds.
func TestDecodeOfOneByteThatIsAnother(t *testing.T) {
	for _, h := range []api.Head{{Gen: 1, Chunk: 1, Cap: 1}, {Gen: 258, Chunk: 4, Cap: 700, Invalid: true}, {Gen: math.MaxUint32, Chunk: 128, Cap: 1 << 20}} {
		s := mustEncode(t, h)
		for at := range s {
			for bit := range 8 {
				checkRefused(t, with(s, at, s[at]^1<<bit), api.ErrSum)
			}
			for other := range 256 {
				if byte(other) != s[at] {
					checkRefused(t, with(s, at, byte(other)), api.ErrSum)
				}
			}
		}
	}
}

func TestDecodeOfBytesWithoutASum(t *testing.T) {
	s := mustEncode(t, api.Head{Gen: 258, Chunk: 4, Cap: 700})
	for _, wrong := range []string{
		strings.Repeat("\x00", 64), strings.Repeat("\x01", 64), strings.Repeat("\xff", 64), strings.Repeat("OAKH", 16),
		s[1:] + s[:1], s[4:] + s[:4], s[:60] + "\x00\x00\x00\x00", s[:60] + s[63:] + s[62:63] + s[61:62] + s[60:61],
	} {
		checkRefused(t, wrong, api.ErrSum)
	}
}

func TestDecodeOfOtherLetters(t *testing.T) {
	body := bodyOf("OAKH", 258, 4, 700, 0)
	for _, letters := range []string{
		"OAKS", "OAK1", "OAK\x00", "oakh", "OAKh", "HKAO", "AOKH", "\x00\x00\x00\x00", "\xff\xff\xff\xff", "    ", "KHOA", "0AKH", " OAK", "AKHO",
	} {
		checkRefused(t, sealedOf(letters+body[4:]), api.ErrMagic)
	}
	for at := range 4 {
		for other := range 256 {
			if byte(other) != body[at] {
				checkRefused(t, sealedOf(with(body, at, byte(other))), api.ErrMagic)
			}
		}
	}
	// The letters stand there, but not at the beginning.
	checkRefused(t, sealedOf("\x00"+body[:bodySize-1]), api.ErrMagic)
	checkRefused(t, sealedOf(body[1:]+"\x00"), api.ErrMagic)
	checkRefused(t, sealedOf(body[4:]+"OAKH"), api.ErrMagic)
}

// 64 bytes 0 are not sealed; sealed bytes 0 begin with other letters, and behind the right ones they are no head's.
func TestDecodeOfBytesZero(t *testing.T) {
	checkRefused(t, strings.Repeat("\x00", 64), api.ErrSum)
	checkRefused(t, sealedOf(strings.Repeat("\x00", bodySize)), api.ErrMagic)
	checkRefused(t, sealedOf("OAKH"+strings.Repeat("\x00", bodySize-4)), api.ErrForm)
}

func TestDecodeOfNumbersThatMayNotBe(t *testing.T) {
	for _, last := range []byte{0, 1} {
		for _, chunk := range []uint16{1, 4, 128} {
			for _, capacity := range []uint32{1, 700, 1 << 20} {
				checkRefused(t, sealedOf(bodyOf("OAKH", 0, chunk, capacity, last)), api.ErrForm)
			}
		}
		for _, gen := range rightGens() {
			for _, chunk := range []uint16{0, 129, 130, 255, 256, 257, 384, 1 << 15, 1<<15 + 1, math.MaxUint16} {
				checkRefused(t, sealedOf(bodyOf("OAKH", gen, chunk, 700, last)), api.ErrForm)
			}
			for _, capacity := range []uint32{0, 1<<20 + 1, 1 << 21, 1<<21 + 1, 1 << 24, 1<<24 + 1, 1 << 31, 1<<31 + 1, math.MaxUint32 - 1, math.MaxUint32} {
				checkRefused(t, sealedOf(bodyOf("OAKH", gen, 4, capacity, last)), api.ErrForm)
			}
		}
	}
	for chunk := range 1 << 16 {
		checkTold(t, bodyOf("OAKH", 1, uint16(chunk), 1, 0))
	}
}

func TestDecodeOfALastByteThatIsNeither(t *testing.T) {
	for last := range 256 {
		for _, h := range []api.Head{{Gen: 1, Chunk: 1, Cap: 1}, {Gen: math.MaxUint32, Chunk: 128, Cap: 1 << 20}} {
			s := sealedOf(bodyOf("OAKH", h.Gen, uint16(h.Chunk), uint32(h.Cap), byte(last)))
			h.Invalid = last == 1
			if last > 1 {
				checkRefused(t, s, api.ErrForm)
			} else if got, err := Decode(s); got != h || err != api.OK {
				t.Errorf("Decode of a last byte of %d = %v, %d, want %v", last, got, err, h)
			}
		}
	}
}

func TestDecodeOfBytesBehindTheHead(t *testing.T) {
	for _, h := range []api.Head{{Gen: 1, Chunk: 1, Cap: 1}, {Gen: math.MaxUint32, Chunk: 128, Cap: 1 << 20, Invalid: true}} {
		body := mustEncode(t, h)[:bodySize]
		for at := 15; at < bodySize; at++ {
			for other := 1; other < 256; other++ {
				checkRefused(t, sealedOf(with(body, at, byte(other))), api.ErrForm)
			}
		}
		checkRefused(t, sealedOf(body[:15]+strings.Repeat("\xff", 45)), api.ErrForm)
		checkRefused(t, sealedOf(body[:15]+body[:45]), api.ErrForm)
	}
}

// Each byte of a body is each other one, and sealed again: what is told is what the chapter's words say.
func TestDecodeOfEachByteSealedAgain(t *testing.T) {
	for _, h := range []api.Head{{Gen: 1, Chunk: 1, Cap: 1}, {Gen: 258, Chunk: 4, Cap: 700, Invalid: true}, {Gen: math.MaxUint32, Chunk: 128, Cap: 1 << 20}} {
		body := mustEncode(t, h)[:bodySize]
		for at := range body {
			for other := range 256 {
				checkTold(t, with(body, at, byte(other)))
			}
		}
	}
}

// Of several that are wrong the first one is told: the length, the sum, the letters, what is said.
func TestDecodeOfSeveralThatAreWrong(t *testing.T) {
	for _, form := range []string{
		bodyOf("OAKH", 0, 4, 700, 0), bodyOf("OAKH", 1, 0, 700, 0), bodyOf("OAKH", 1, 4, 0, 0), bodyOf("OAKH", 1, 4, 700, 2),
		bodyOf("OAKH", 0, 129, 1<<20+1, 255), with(bodyOf("OAKH", 1, 4, 700, 0), 59, 1), "OAKH" + strings.Repeat("\xff", 56),
	} {
		magic := "OAKS" + form[4:]
		checkRefused(t, sealedOf(form), api.ErrForm)
		checkRefused(t, sealedOf(magic), api.ErrMagic)
		for _, s := range []string{sealedOf(form), sealedOf(magic)} {
			for at := range s {
				checkRefused(t, with(s, at, s[at]^1), api.ErrSum)
			}
			for _, wrong := range []string{s, with(s, 3, 'x'), with(s, 63, s[63]^128)} {
				checkRefused(t, wrong[:63], api.ErrCut)
				checkRefused(t, wrong[:60], api.ErrCut)
				checkRefused(t, wrong+"\x00", api.ErrCut)
			}
		}
		checkRefused(t, sealedOf(form[:59]), api.ErrCut)
		checkRefused(t, sealedOf(magic+"\x00"), api.ErrCut)
	}
}

// P7.2: there and back.

func TestWhatIsEncodedIsDecoded(t *testing.T) {
	for _, want := range rightHeads() {
		if got, err := Decode(mustEncode(t, want)); got != want || err != api.OK {
			t.Errorf("Encode(%v), and Decode: %v, %d", want, got, err)
		}
	}
}

// Two heads that are not the same have sectors that are not.
func TestEachHeadHasItsOwnSector(t *testing.T) {
	seen := map[string]api.Head{}
	for _, h := range rightHeads() {
		s := mustEncode(t, h)
		if other, ok := seen[s]; ok {
			t.Errorf("%v and %v have one sector", h, other)
		}
		seen[s] = h
	}
}

// Sealed bytes are a head's just if they say nothing that is none's, and then they are encoded to themselves.
func TestWhatIsDecodedIsEncoded(t *testing.T) {
	x := uint64(88172645463325252)
	next := func() uint64 {
		x ^= x << 13
		x ^= x >> 7
		x ^= x << 17
		return x >> 8
	}
	told := map[api.Errno]int{}
	for range 20000 {
		letters, last, behind := "OAKH", byte(next()%2), 0
		switch next() % 8 {
		case 0:
			letters = "OAKS"
		case 1:
			last = byte(next())
		case 2:
			behind = int(next() % 2)
		}
		body := bodyOf(letters, uint32(next()>>(next()%32)), uint16(next()%130), uint32(next()%(1<<20+2)), last)
		body = with(body, 15+int(next()%45), byte(behind))
		_, err := toldOf(body)
		told[err]++
		checkTold(t, body)
	}
	if told[api.OK] < 10000 || told[api.ErrMagic] < 1000 || told[api.ErrForm] < 1000 {
		t.Errorf("of each kind so many were tried: %v", told)
	}
}

// The rules that hold everywhere: with an error all else is zero (checked above), what is handed in stays.

func TestHeadsStay(t *testing.T) {
	for _, want := range append(rightHeads()[:50], wrongHeads()[:50]...) {
		h := want
		Right(h)
		Encode(h)
		if h != want {
			t.Errorf("the head %v is %v now", want, h)
		}
	}
	b := []byte(mustEncode(t, api.Head{Gen: 258, Chunk: 4, Cap: 700}))
	kept := slices.Clone(b)
	h, _ := Decode(string(b))
	h.Gen, h.Invalid = 9, true
	if again, err := Decode(string(b)); again != (api.Head{Gen: 258, Chunk: 4, Cap: 700}) || err != api.OK || !slices.Equal(b, kept) {
		t.Errorf("behind an answer that was written into: %v, %d", again, err)
	}
}

// P1, P2: every call ends, and answers the same again, whatever was called in between.

func TestTheSameAgain(t *testing.T) {
	texts := []string{strings.Repeat("\x00", 1<<20), sealedOf(strings.Repeat("\x00", bodySize)), sealedOf(strings.Repeat("\xff", bodySize))}
	for length := range 140 {
		texts = append(texts, strings.Repeat("\x00", length), strings.Repeat("\xff", length), strings.Repeat("OAKH", 35)[:length])
	}
	for _, h := range append(rightHeads(), wrongHeads()...) {
		right := Right(h)
		s, err := Encode(h)
		Encode(api.Head{Gen: 77, Chunk: 7, Cap: 7, Invalid: true})
		Encode(api.Head{})
		if again, errAgain := Encode(h); again != s || errAgain != err || Right(h) != right || right != (err == api.OK) {
			t.Errorf("Encode(%v) = %q, %d, then %q, %d", h, s, err, again, errAgain)
		}
		texts = append(texts, s)
	}
	other := sectorOf(api.Head{Gen: 77, Chunk: 7, Cap: 7, Invalid: true})
	for _, s := range texts {
		h, err := Decode(s)
		Decode(other)
		Decode("OAKH")
		if h2, err2 := Decode(s); h2 != h || err2 != err {
			t.Errorf("Decode(%q) = %v, %d, then %v, %d", s, h, err, h2, err2)
		}
	}
}
