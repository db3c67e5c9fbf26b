package crc

import (
	"encoding/binary"
	"hash/crc32"
	"math"
	"slices"
	"strings"
	"testing"

	"oakum/api"
)

// textOf is so many bytes from a fixed rule.
func textOf(length, seed int) string {
	x := uint64(seed)*0x9e3779b97f4a7c15 + 88172645463325252
	b := make([]byte, length)
	for i := range b {
		x ^= x << 13
		x ^= x >> 7
		x ^= x << 17
		b[i] = byte(x >> 24)
	}
	return string(b)
}

// sumByDivision is the sum by the chapter's words: bits as a list, divided by the polynomial of the powers named there.
func sumByDivision(s string) uint32 {
	var bits []int
	for i := range len(s) {
		for j := range 8 {
			bits = append(bits, int(s[i]>>j)&1)
		}
	}
	bits = append(bits, make([]int, 32)...)
	for i := range 32 {
		bits[i] ^= 1
	}
	for i := range len(bits) - 32 {
		if bits[i] == 0 {
			continue
		}
		for _, power := range []int{32, 26, 23, 22, 16, 12, 11, 10, 8, 7, 5, 4, 2, 1, 0} {
			bits[i+32-power] ^= 1
		}
	}
	sum := uint32(0)
	for i, bit := range bits[len(bits)-32:] { // the coefficient of x^31 first
		sum |= uint32(bit^1) << i
	}
	return sum
}

// sumBytes is a sum's four bytes, as the library has both.
func sumBytes(s string) string {
	return string(binary.LittleEndian.AppendUint32(nil, crc32.ChecksumIEEE([]byte(s))))
}

// mustSeal is sealed bytes that may be.
func mustSeal(t *testing.T, body string, size int) string {
	t.Helper()
	s, err := Seal(body, size)
	if err != api.OK || len(s) != size {
		t.Fatalf("Seal(%q, %d) = %q, %d", body, size, s, err)
	}
	return s
}

// with is a text whose byte at a place is another one.
func with(s string, at int, b byte) string { return s[:at] + string([]byte{b}) + s[at+1:] }

// P3.1, C1: Sum.

func TestSum(t *testing.T) {
	for _, c := range []struct {
		l    []string
		want uint32
	}{
		{nil, 0}, {[]string{}, 0}, {[]string{""}, 0}, {[]string{"", "", ""}, 0},
		{[]string{"a"}, 0xe8b7be43}, {[]string{"", "a", ""}, 0xe8b7be43},
		{[]string{"ab"}, 0x9e83486d}, {[]string{"a", "b"}, 0x9e83486d},
		{[]string{"abc"}, 0x352441c2}, {[]string{"abcd"}, 0xed82cd11}, {[]string{"abc", "d"}, 0xed82cd11},
		{[]string{"\x00"}, 0xd202ef8d}, {[]string{"\x00\x00\x00\x00"}, 0x2144df1c},
		{[]string{"\xff"}, 0xff000000}, {[]string{"\xff\xff\xff\xff"}, 0xffffffff},
		{[]string{"123456789"}, 0xcbf43926}, {[]string{"123", "", "456789"}, 0xcbf43926},
		{[]string{"1", "2", "3", "4", "5", "6", "7", "8", "9"}, 0xcbf43926},
		{[]string{"", "12345678", "9"}, 0xcbf43926}, {[]string{"987654321"}, 0x015f0201},
	} {
		if got := Sum(c.l...); got != c.want {
			t.Errorf("Sum(%q) = %08x, want %08x", c.l, got, c.want)
		}
	}
}

func checkSum(t *testing.T, s string) {
	t.Helper()
	got := Sum(s)
	if want := sumByDivision(s); got != want {
		t.Errorf("Sum of %d bytes, %.20q: %08x, want %08x", len(s), s, got, want)
	}
	if want := crc32.ChecksumIEEE([]byte(s)); got != want {
		t.Errorf("Sum of %d bytes, %.20q: %08x, the library has %08x", len(s), s, got, want)
	}
}

func TestSumOfEachByte(t *testing.T) {
	for b := range 256 {
		one := string([]byte{byte(b)})
		for _, s := range []string{one, one + "x", "x" + one, one + one + one, "abc" + one, "abcd" + one, "\x00\x00\x00\x00\x00" + one} {
			checkSum(t, s)
		}
	}
}

func TestSumOfEachLength(t *testing.T) {
	for length := range 140 {
		for _, s := range []string{textOf(length, 1), textOf(length, 2), strings.Repeat("\x00", length), strings.Repeat("\xff", length)} {
			checkSum(t, s)
		}
	}
	for _, length := range []int{255, 256, 257, 4092, 4096, 4097, 10000} {
		checkSum(t, textOf(length, length))
	}
}

func TestSumOfALongText(t *testing.T) {
	s := textOf(1<<20+3, 5)
	if got, want := Sum(s), crc32.ChecksumIEEE([]byte(s)); got != want {
		t.Errorf("Sum = %08x, want %08x", got, want)
	}
	if got, want := Sum(strings.Split(s, "")[:100000]...), Sum(strings.Join(strings.Split(s, "")[:100000], "")); got != want {
		t.Errorf("Sum of many texts = %08x, want %08x", got, want)
	}
}

func TestSumOfTextsIsThatOfOne(t *testing.T) {
	s := textOf(70, 9)
	want := crc32.ChecksumIEEE([]byte(s))
	for a := range len(s) + 1 {
		for b := a; b <= len(s); b++ {
			if got := Sum(s[:a], s[a:b], "", s[b:]); got != want {
				t.Fatalf("Sum of texts parted at %d and %d: %08x, want %08x", a, b, got, want)
			}
		}
	}
}

// P3.1, C1: Seal.

func TestSeal(t *testing.T) {
	for _, c := range []struct {
		body string
		size int
		want string
	}{
		{"", 4, "\x00\x00\x00\x00"}, {"", 5, "\x00\x8d\xef\x02\xd2"}, {"a", 5, "a\x43\xbe\xb7\xe8"},
		{"123456789", 13, "123456789\x26\x39\xf4\xcb"}, {"\xff\xff\xff\xff", 8, "\xff\xff\xff\xff\xff\xff\xff\xff"},
		{"ab", 8, "ab\x00\x00" + sumBytes("ab\x00\x00")}, {"\x00b", 7, "\x00b\x00" + sumBytes("\x00b\x00")},
	} {
		if got, err := Seal(c.body, c.size); got != c.want || err != api.OK {
			t.Errorf("Seal(%q, %d) = %q, %d, want %q", c.body, c.size, got, err, c.want)
		}
	}
}

func TestSealOfEachLength(t *testing.T) {
	for _, size := range []int{4, 5, 6, 7, 8, 9, 63, 64, 65, 128, 4095, 4096} {
		for _, length := range []int{0, 1, 2, 3, 4, 5, 59, 60, 61, 124, size - 5, size - 4, size - 3, size, size + 1} {
			if length < 0 {
				continue
			}
			body := textOf(length, size)
			want, wantErr := "", api.ErrRange
			if length <= size-4 {
				padded := body + strings.Repeat("\x00", size-4-length)
				want, wantErr = padded+sumBytes(padded), api.OK
			}
			if got, err := Seal(body, size); got != want || err != wantErr {
				t.Errorf("Seal of %d bytes to %d: %q, %d, want %q, %d", length, size, got, err, want, wantErr)
			}
		}
	}
}

// A size that may not be is told ahead of a body that has too many bytes for it.
func TestSealOfNoSize(t *testing.T) {
	for _, size := range []int{math.MinInt, -1 << 32, -4096, -4, -1, 0, 1, 2, 3, 4097, 4098, 8192, 1 << 20, 1<<20 + 4, 1<<20 + 5, 1<<32 + 8, math.MaxInt} {
		for _, length := range []int{0, 1, 4, 60, 4092, 4093, 4096, 5000} {
			if got, err := Seal(textOf(length, 3), size); got != "" || err != api.ErrArg {
				t.Errorf("Seal of %d bytes to %d: %d bytes, %d, want ErrArg", length, size, len(got), err)
			}
		}
	}
}

// P3.1, C2: Open.

func TestOpen(t *testing.T) {
	for _, c := range []struct {
		s, want string
		err     api.Errno
	}{
		{"", "", api.ErrCut}, {"\x00", "", api.ErrCut}, {"ab", "", api.ErrCut}, {"abc", "", api.ErrCut}, {"\x00\x00\x00", "", api.ErrCut},
		{"\x00\x00\x00\x00", "", api.OK}, {"abcd", "", api.ErrSum}, {"\x00\x00\x00\x01", "", api.ErrSum}, {"\x01\x00\x00\x00", "", api.ErrSum},
		{"\x00\x8d\xef\x02\xd2", "\x00", api.OK}, {"\x00\x00\x00\x00\x00", "", api.ErrSum}, {"\x00\xd2\x02\xef\x8d", "", api.ErrSum},
		{"123456789\x26\x39\xf4\xcb", "123456789", api.OK}, {"123456789\xcb\xf4\x39\x26", "", api.ErrSum},
		{"123456789\x26\x39\xf4\xca", "", api.ErrSum}, {"123456789\x27\x39\xf4\xcb", "", api.ErrSum},
		{"123456789\x26\x39\xf4", "", api.ErrSum}, {"123456789\x26\x39\xf4\xcb\x00", "", api.ErrSum},
		{"23456789\x26\x39\xf4\xcb", "", api.ErrSum}, {"\xff\xff\xff\xff\xff\xff\xff\xff", "\xff\xff\xff\xff", api.OK},
	} {
		if got, err := Open(c.s); got != c.want || err != c.err {
			t.Errorf("Open(%q) = %q, %d, want %q, %d", c.s, got, err, c.want, c.err)
		}
	}
}

func TestWhatWasSealedIsOpened(t *testing.T) {
	for _, size := range []int{4, 5, 8, 64, 128, 4095, 4096} {
		for _, length := range []int{0, 1, 3, 4, 59, 60, size - 5, size - 4} {
			if length < 0 || length > size-4 {
				continue
			}
			body := textOf(length, size+1)
			want := body + strings.Repeat("\x00", size-4-length)
			if got, err := Open(mustSeal(t, body, size)); got != want || err != api.OK {
				t.Errorf("Seal of %d bytes to %d, and Open: %q, %d, want %q", length, size, got, err, want)
			}
		}
	}
}

// Seal has a greatest size, Open has none.
func TestOpenOfManyBytes(t *testing.T) {
	for _, length := range []int{4092, 4093, 4096, 5000, 1 << 20, 1<<20 + 1} {
		body := textOf(length, 7)
		if got, err := Open(body + sumBytes(body)); got != body || err != api.OK {
			t.Errorf("Open of %d bytes: %d bytes, %d", length+4, len(got), err)
		}
		if got, err := Open(body + sumBytes(body[1:])); got != "" || err != api.ErrSum {
			t.Errorf("Open of %d bytes with another sum: %d bytes, %d", length+4, len(got), err)
		}
	}
}

// P3.2: one bit.

func TestOneBitIsSeen(t *testing.T) {
	for _, c := range []struct{ length, size int }{{0, 4}, {0, 5}, {1, 5}, {2, 8}, {9, 13}, {20, 64}, {60, 64}, {300, 512}, {0, 512}} {
		s := mustSeal(t, textOf(c.length, c.size), c.size)
		for bit := range 8 * len(s) {
			turned := with(s, bit/8, s[bit/8]^1<<(bit%8))
			if got, err := Open(turned); got != "" || err != api.ErrSum {
				t.Fatalf("sealed bytes of %d, bit %d turned: %q, %d, want ErrSum", c.size, bit, got, err)
			}
		}
	}
}

func TestOneByteIsSeen(t *testing.T) {
	for _, c := range []struct{ length, size int }{{0, 4}, {1, 5}, {2, 8}, {20, 64}, {60, 64}} {
		s := mustSeal(t, textOf(c.length, c.size+2), c.size)
		for at := range len(s) {
			for other := range 256 {
				if byte(other) == s[at] {
					continue
				}
				if got, err := Open(with(s, at, byte(other))); got != "" || err != api.ErrSum {
					t.Fatalf("sealed bytes of %d, byte %d is %02x: %q, %d, want ErrSum", c.size, at, other, got, err)
				}
			}
		}
	}
}

func TestOneBitIsSeenInTheGreatestSize(t *testing.T) {
	for _, body := range []string{"", textOf(2000, 4), textOf(4092, 4)} {
		s := mustSeal(t, body, 4096)
		for at := range len(s) {
			if at > 8 && at < len(s)-8 && at%61 != 0 {
				continue
			}
			for _, turn := range []byte{1, 2, 4, 8, 16, 32, 64, 128, 255} {
				if got, err := Open(with(s, at, s[at]^turn)); got != "" || err != api.ErrSum {
					t.Fatalf("byte %d turned by %02x: %d bytes, %d, want ErrSum", at, turn, len(got), err)
				}
			}
		}
	}
}

// P3.3: even.

// evenText is, of three texts of one length, the sum of all, bit by bit.
func evenText(a, b, c string) string {
	even := make([]byte, len(a))
	for i := range even {
		even[i] = a[i] ^ b[i] ^ c[i]
	}
	return string(even)
}

func TestSumsAreEven(t *testing.T) {
	for length := range 130 {
		a, b, c := textOf(length, 11), textOf(length, 12), textOf(length, 13)
		zeros, ones := strings.Repeat("\x00", length), strings.Repeat("\xff", length)
		for _, l := range [][3]string{{a, b, c}, {a, a, b}, {a, b, a}, {a, a, a}, {a, b, zeros}, {a, ones, zeros}, {ones, ones, c}, {zeros, zeros, zeros}} {
			got, want := Sum(evenText(l[0], l[1], l[2])), Sum(l[0])^Sum(l[1])^Sum(l[2])
			if got != want {
				t.Errorf("length %d: the sum of all three is %08x, all three sums %08x", length, got, want)
			}
		}
	}
	a, b, c := textOf(4096, 14), textOf(4096, 15), textOf(4096, 16)
	if Sum(evenText(a, b, c)) != Sum(a)^Sum(b)^Sum(c) {
		t.Error("the sums of three texts of 4096 bytes are not even")
	}
}

func TestSealedBytesAreEven(t *testing.T) {
	a, b, c := textOf(60, 17), textOf(60, 18), textOf(60, 19)
	sealed := evenText(mustSeal(t, a, 64), mustSeal(t, b, 64), mustSeal(t, c, 64))
	if got, err := Open(sealed); got != evenText(a, b, c) || err != api.OK {
		t.Errorf("Open of three sealed texts, bit by bit: %q, %d", got, err)
	}
}

// The rules that hold everywhere: nothing that is handed in is written into, nor what lies behind it.

func TestArgumentsStay(t *testing.T) {
	l := []string{"123", "456789", "behind", "too"}
	if got := Sum(l[:2]...); got != 0xcbf43926 {
		t.Errorf("Sum = %08x: what lies behind the list was read", got)
	}
	if !slices.Equal(l, []string{"123", "456789", "behind", "too"}) {
		t.Errorf("the texts are %q now", l)
	}
}

// P1 and P2: no call panics, and each answers the same again, whatever was asked between.

type answers struct {
	sum              uint32
	sealed, opened   string
	sealErr, openErr api.Errno
}

func ask(s string, size int) (x answers) {
	x.sum = Sum(s, "", s)
	x.sealed, x.sealErr = Seal(s, size)
	x.opened, x.openErr = Open(x.sealed + s)
	return x
}

func TestCallsAnswerTheSameAgain(t *testing.T) {
	sizes := []int{math.MinInt, -1, 0, 3, 4, 5, 8, 64, 4096, 4097, math.MaxInt}
	var first []answers
	for range 2 {
		var again []answers
		for length := range 80 {
			for _, size := range sizes {
				again = append(again, ask(textOf(length, size&0xff), size))
			}
		}
		if first == nil {
			first = again
		}
		if !slices.Equal(first, again) {
			t.Fatal("the same calls answer otherwise")
		}
	}
}
