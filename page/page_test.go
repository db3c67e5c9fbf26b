package page

import (
	"encoding/binary"
	"hash/crc32"
	"math"
	"slices"
	"strings"
	"testing"

	"oakum/api"
)

const lastChunk = 2147483646 // 2^31 - 2

// sealedOf is a body's sealed bytes, as the library has the sum and its bytes.
func sealedOf(body string) string {
	return string(binary.LittleEndian.AppendUint32([]byte(body), crc32.ChecksumIEEE([]byte(body))))
}

// numbersOf is numbers as four bytes each, as the library has them.
func numbersOf(l ...uint32) string {
	var b []byte
	for _, n := range l {
		b = binary.LittleEndian.AppendUint32(b, n)
	}
	return string(b)
}

// sectorOf is a page's sector by the chapter's words.
func sectorOf(gen uint32, l []int) string {
	body := numbersOf(gen)
	for _, chunk := range l {
		body += numbersOf(uint32(chunk + 1))
	}
	return sealedOf(body + strings.Repeat("\x00", 60-len(body)))
}

// allOf is 13 places that have the same.
func allOf(chunk int) []int { return slices.Repeat([]int{chunk}, 13) }

// placed is 13 places that have the same, but for one.
func placed(chunk, at, other int) []int {
	l := allOf(chunk)
	l[at] = other
	return l
}

// rising is 13 places, each with another one.
func rising(from int) []int {
	var l []int
	for i := range 13 {
		l = append(l, from+i)
	}
	return l
}

// byRule is so many pages' places from a fixed rule.
func byRule(pages int) (all [][]int) {
	x := uint64(88172645463325252)
	for range pages {
		var l []int
		for range 13 {
			x ^= x << 13
			x ^= x >> 7
			x ^= x << 17
			l = append(l, int(x>>33>>(x%32))-1)
		}
		all = append(all, l)
	}
	return all
}

func generations() []uint32 {
	return []uint32{0, 1, 2, 255, 256, 258, 65535, 65536, 1<<31 - 1, 1 << 31, math.MaxUint32 - 1, math.MaxUint32}
}

// rightPlaces are those of pages that may be.
func rightPlaces() [][]int {
	l := [][]int{
		allOf(-1), allOf(0), allOf(1), allOf(lastChunk), rising(-1), rising(0), rising(lastChunk - 12),
		{3, -1, 0, -1, -1, -1, -1, -1, -1, -1, -1, -1, 9},
		{12, 11, 10, 9, 8, 7, 6, 5, 4, 3, 2, 1, 0},
		{0, 254, 255, 256, 65534, 65535, 65536, 16777214, 16777215, 16777216, lastChunk - 1, lastChunk, -1},
	}
	for at := range 13 {
		l = append(l, placed(-1, at, 0), placed(-1, at, lastChunk), placed(7, at, -1), placed(lastChunk, at, -1))
	}
	return append(l, byRule(200)...)
}

// wrongChunks can't stand at a place; of some of them the lowest four bytes are those of one that can.
func wrongChunks() []int {
	return []int{
		-2, -3, -256, math.MinInt32, math.MinInt, math.MinInt + 1,
		lastChunk + 1, lastChunk + 2, math.MaxUint32 - 1, math.MaxUint32, math.MaxUint32 + 1, 1<<32 + 5, math.MaxInt - 1, math.MaxInt,
	}
}

// with is a text whose byte at a place is another one.
func with(s string, at int, b byte) string { return s[:at] + string([]byte{b}) + s[at+1:] }

func mustEncode(t *testing.T, gen uint32, l ...int) string {
	t.Helper()
	s, err := Encode(gen, l...)
	if err != api.OK || len(s) != 64 {
		t.Fatalf("Encode(%d, %v) = %q, %d", gen, l, s, err)
	}
	return s
}

func checkRefused(t *testing.T, s string, want api.Errno) {
	t.Helper()
	if gen, l, err := Decode(s); gen != 0 || len(l) != 0 || err != want {
		t.Errorf("Decode(%q) = %d, %v, %d, want error %d", s, gen, l, err, want)
	}
}

// P6.1, A1: Encode.

func TestEncode(t *testing.T) {
	for _, c := range []struct {
		gen  uint32
		l    []int
		want string
	}{
		{
			258, []int{3, -1, 0, -1, -1, -1, -1, -1, -1, -1, -1, -1, 9},
			"\x02\x01\x00\x00" + "\x04\x00\x00\x00" + "\x00\x00\x00\x00" + "\x01\x00\x00\x00" + strings.Repeat("\x00", 36) + "\x0a\x00\x00\x00" + "\x00\x00\x00\x00",
		},
		{0, allOf(-1), strings.Repeat("\x00", 60)},
		{1, allOf(0), strings.Repeat("\x01\x00\x00\x00", 14) + "\x00\x00\x00\x00"},
		{math.MaxUint32, allOf(lastChunk), "\xff\xff\xff\xff" + strings.Repeat("\xff\xff\xff\x7f", 13) + "\x00\x00\x00\x00"},
		{
			0x04030201, []int{0x07060504, 0, 1, 2, 3, 4, 5, 6, 7, 8, 9, 10, 0x7fedcba8},
			"\x01\x02\x03\x04" + "\x05\x05\x06\x07" + numbersOf(1, 2, 3, 4, 5, 6, 7, 8, 9, 10, 11) + "\xa9\xcb\xed\x7f" + "\x00\x00\x00\x00",
		},
	} {
		if got, err := Encode(c.gen, c.l...); got != sealedOf(c.want) || err != api.OK {
			t.Errorf("Encode(%d, %v) = %q, %d, want %q", c.gen, c.l, got, err, sealedOf(c.want))
		}
	}
}

func TestEncodeOfEachPage(t *testing.T) {
	for _, l := range rightPlaces() {
		for _, gen := range generations() {
			if got, err := Encode(gen, l...); got != sectorOf(gen, l) || err != api.OK {
				t.Errorf("Encode(%d, %v) = %q, %d, want %q", gen, l, got, err, sectorOf(gen, l))
			}
		}
	}
}

func TestEncodeOfWrongPlaces(t *testing.T) {
	for _, wrong := range wrongChunks() {
		for at := range 13 {
			for _, right := range []int{-1, 0, 5, lastChunk} {
				if got, err := Encode(1, placed(right, at, wrong)...); got != "" || err != api.ErrArg {
					t.Errorf("Encode of %d at place %d = %q, %d, want ErrArg", wrong, at, got, err)
				}
			}
		}
		if got, err := Encode(0, allOf(wrong)...); got != "" || err != api.ErrArg {
			t.Errorf("Encode of %d at all places = %q, %d, want ErrArg", wrong, got, err)
		}
	}
}

func TestEncodeOfTooFewOrManyPlaces(t *testing.T) {
	if got, err := Encode(1); got != "" || err != api.ErrArg {
		t.Errorf("Encode of no place = %q, %d, want ErrArg", got, err)
	}
	for _, n := range []int{0, 1, 2, 11, 12, 14, 15, 26, 39, 269, 10000} {
		for _, chunk := range []int{-1, 0, 7, lastChunk, -2, lastChunk + 1, math.MinInt, math.MaxInt} {
			if got, err := Encode(258, slices.Repeat([]int{chunk}, n)...); got != "" || err != api.ErrArg {
				t.Errorf("Encode of %d places of %d = %q, %d, want ErrArg", n, chunk, got, err)
			}
		}
	}
}

// P6.1, A1: Decode.

func TestDecode(t *testing.T) {
	for _, c := range []struct {
		body string
		gen  uint32
		l    []int
	}{
		{strings.Repeat("\x00", 60), 0, allOf(-1)},
		{strings.Repeat("\x01\x00\x00\x00", 14) + "\x00\x00\x00\x00", 1, allOf(0)},
		{"\xff\xff\xff\xff" + strings.Repeat("\xff\xff\xff\x7f", 13) + "\x00\x00\x00\x00", math.MaxUint32, allOf(lastChunk)},
		{numbersOf(258, 4, 0, 1, 0, 0, 0, 0, 0, 0, 0, 0, 0, 10, 0), 258, []int{3, -1, 0, -1, -1, -1, -1, -1, -1, -1, -1, -1, 9}},
		{numbersOf(1<<31, 13, 12, 11, 10, 9, 8, 7, 6, 5, 4, 3, 2, 1, 0), 1 << 31, []int{12, 11, 10, 9, 8, 7, 6, 5, 4, 3, 2, 1, 0}},
	} {
		if gen, l, err := Decode(sealedOf(c.body)); gen != c.gen || !slices.Equal(l, c.l) || err != api.OK {
			t.Errorf("Decode of %q = %d, %v, %d, want %d, %v", c.body, gen, l, err, c.gen, c.l)
		}
	}
}

// Bytes of another length are cut, also those that begin with a page's sector, or are sealed themselves.
func TestDecodeOfAnotherLength(t *testing.T) {
	s := mustEncode(t, 258, rising(3)...)
	for length := range 200 {
		if length == 64 {
			continue
		}
		checkRefused(t, strings.Repeat(s, 4)[:length], api.ErrCut)
		checkRefused(t, strings.Repeat("\x00", length), api.ErrCut)
		checkRefused(t, strings.Repeat("\xff", length), api.ErrCut)
		if length >= 4 {
			checkRefused(t, sealedOf(strings.Repeat("\x00", length-4)), api.ErrCut)
			checkRefused(t, sealedOf(strings.Repeat(s, 4)[:length-4]), api.ErrCut)
		}
	}
	checkRefused(t, s[1:], api.ErrCut)
	checkRefused(t, strings.Repeat(s, 64), api.ErrCut)
	checkRefused(t, strings.Repeat("\x00", 1<<20), api.ErrCut)
}

// Each byte of the generation, of a place, behind the last place, and of the sum is one that the sum holds.
func TestDecodeOfOneByteThatIsAnother(t *testing.T) {
	for _, s := range []string{mustEncode(t, 0, allOf(-1)...), mustEncode(t, 258, rising(3)...), mustEncode(t, math.MaxUint32, allOf(lastChunk)...)} {
		for at := range s {
			for other := range 256 {
				if byte(other) != s[at] {
					checkRefused(t, with(s, at, byte(other)), api.ErrSum)
				}
			}
		}
	}
}

func TestDecodeOfBytesWithoutASum(t *testing.T) {
	s := mustEncode(t, 258, rising(3)...)
	for _, wrong := range []string{
		strings.Repeat("\x00", 64), strings.Repeat("\x01", 64), strings.Repeat("\xff", 64), strings.Repeat("x", 64),
		s[1:] + s[:1], s[4:] + s[:4], s[:60] + "\x00\x00\x00\x00", s[:60] + s[63:] + s[62:63] + s[61:62] + s[60:61],
	} {
		checkRefused(t, wrong, api.ErrSum)
	}
}

// Sealed bytes of a place that is too great are no page's, whatever else stands there.
func TestDecodeOfPlacesThatAreTooGreat(t *testing.T) {
	for _, wrong := range []uint32{1 << 31, 1<<31 + 1, 1<<31 + 5, 0xff000000, math.MaxUint32 - 1, math.MaxUint32} {
		for _, right := range []uint32{0, 1, 1<<31 - 1} {
			for at := range 13 {
				l := slices.Repeat([]uint32{right}, 13)
				l[at] = wrong
				checkRefused(t, sealedOf(numbersOf(7)+numbersOf(l...)+"\x00\x00\x00\x00"), api.ErrForm)
				checkRefused(t, sealedOf(numbersOf(7)+numbersOf(l...)+"\x00\x01\x00\x00"), api.ErrForm)
			}
		}
	}
	checkRefused(t, sealedOf(strings.Repeat("\xff", 60)), api.ErrForm)
	checkRefused(t, sealedOf(numbersOf(0)+strings.Repeat("\x00\x00\x00\x80", 13)+"\x00\x00\x00\x00"), api.ErrForm)
}

func TestDecodeOfBytesBehindTheLastPlace(t *testing.T) {
	for _, l := range [][]int{allOf(-1), rising(0), allOf(lastChunk)} {
		body := mustEncode(t, 9, l...)[:60]
		for at := 56; at < 60; at++ {
			for other := 1; other < 256; other++ {
				checkRefused(t, sealedOf(with(body, at, byte(other))), api.ErrForm)
			}
		}
		checkRefused(t, sealedOf(body[:56]+"\xff\xff\xff\xff"), api.ErrForm)
	}
}

// Of several that are wrong the first one is told: the length, the sum, what is said.
func TestDecodeOfSeveralThatAreWrong(t *testing.T) {
	wrong := sealedOf(numbersOf(1) + strings.Repeat("\xff", 56))
	checkRefused(t, wrong, api.ErrForm)
	for at := range wrong {
		checkRefused(t, with(wrong, at, wrong[at]^1), api.ErrSum)
	}
	checkRefused(t, wrong[:63], api.ErrCut)
	checkRefused(t, wrong+"\x00", api.ErrCut)
	checkRefused(t, with(wrong, 3, 'x')[:63], api.ErrCut)
	checkRefused(t, with(wrong, 3, 'x')+"x", api.ErrCut)
}

// P6.2: there and back.

func TestWhatIsEncodedIsDecoded(t *testing.T) {
	for _, want := range rightPlaces() {
		for _, gen := range generations() {
			got, l, err := Decode(mustEncode(t, gen, want...))
			if got != gen || !slices.Equal(l, want) || err != api.OK {
				t.Errorf("Encode(%d, %v), and Decode: %d, %v, %d", gen, want, got, l, err)
			}
		}
	}
}

// Sealed bytes are a page's just if they say nothing that is none's, and then they are encoded to themselves.
func TestWhatIsDecodedIsEncoded(t *testing.T) {
	x := uint64(1234567890123456789)
	decoded := 0
	for round := range 20000 {
		var numbers []uint32
		for range 14 {
			x ^= x << 13
			x ^= x >> 7
			x ^= x << 17
			n := uint32(x >> 32 >> (x % 32))
			if round%4 != 0 {
				n >>= 1
			}
			numbers = append(numbers, n)
		}
		s := sealedOf(numbersOf(numbers...) + numbersOf(uint32(round%5/4)))
		may := round%5 != 4 && slices.Max(numbers[1:]) < 1<<31
		gen, l, err := Decode(s)
		if !may {
			checkRefused(t, s, api.ErrForm)
			continue
		}
		decoded++
		if again, errAgain := Encode(gen, l...); err != api.OK || again != s || errAgain != api.OK {
			t.Fatalf("Decode(%q) = %d, %v, %d, and Encode: %q, %d", s, gen, l, err, again, errAgain)
		}
	}
	if decoded < 10000 || decoded > 19000 {
		t.Errorf("%d of the sectors may be", decoded)
	}
}

// The rules that hold everywhere: what is handed in stays, what lies behind it isn't read, what is answered is new.

func TestPlacesStay(t *testing.T) {
	long := append(rising(3), 99, -7, 98)
	kept := slices.Clone(long)
	if got := mustEncode(t, 5, long[:13]...); got != sectorOf(5, rising(3)) {
		t.Errorf("Encode of a piece of a list = %q", got)
	}
	if got, err := Encode(5, long[:12]...); got != "" || err != api.ErrArg {
		t.Errorf("Encode of 12 places of a list = %q, %d: what lies behind them was read", got, err)
	}
	if !slices.Equal(long, kept) {
		t.Errorf("the list is %v now", long)
	}
}

func TestAnswersAreNew(t *testing.T) {
	handed := rising(3)
	s := mustEncode(t, 258, handed...)
	_, first, _ := Decode(s)
	_, second, _ := Decode(s)
	for i := range first {
		first[i] = -100
	}
	_ = append(first[:0], 77, 78)
	_, third, err := Decode(s)
	if !slices.Equal(second, rising(3)) || !slices.Equal(third, rising(3)) || err != api.OK {
		t.Errorf("an answer that was written into: another one is %v, a later one %v, %d", second, third, err)
	}
	if !slices.Equal(handed, rising(3)) {
		t.Errorf("the places that were handed in are %v now", handed)
	}
	handed[0] = -1
	if again := mustEncode(t, 258, second...); again != s {
		t.Errorf("what was decoded is encoded to %q, want %q", again, s)
	}
}

// P1, P2: every call ends, and answers the same again, whatever was called in between.

func TestTheSameAgain(t *testing.T) {
	var texts []string
	for length := range 140 {
		texts = append(texts, strings.Repeat("\x00", length), strings.Repeat("\xff", length))
	}
	for _, l := range append(rightPlaces(), nil, allOf(-2), allOf(math.MaxInt), rising(lastChunk), rising(0)[:12], append(rising(0), 13)) {
		for _, gen := range generations() {
			s, err := Encode(gen, l...)
			if again, errAgain := Encode(gen, l...); again != s || errAgain != err {
				t.Errorf("Encode(%d, %v) = %q, %d, then %q, %d", gen, l, s, err, again, errAgain)
			}
			texts = append(texts, s, s+s)
		}
	}
	for _, s := range texts {
		gen, l, err := Decode(s)
		Decode(sealedOf(strings.Repeat("\xff", 60)))
		if gen2, l2, err2 := Decode(s); gen2 != gen || !slices.Equal(l2, l) || err2 != err {
			t.Errorf("Decode(%q) = %d, %v, %d, then %d, %v, %d", s, gen, l, err, gen2, l2, err2)
		}
	}
}
