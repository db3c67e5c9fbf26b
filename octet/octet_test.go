package octet

import (
	"encoding/binary"
	"math"
	"slices"
	"strings"
	"testing"

	"oakum/api"
)

// noSizes are numbers that are no size, and of which some would be, if only their lowest bits were looked at.
func noSizes() []int {
	return []int{math.MinInt, -1 << 32, -256, -8, -1, 9, 10, 16, 64, 255, 256, 1<<32 + 1, math.MaxInt}
}

// edgeNumbers are those that just fit their bytes, and just do not, and some from a fixed rule.
func edgeNumbers() []uint64 {
	l := []uint64{0, 1, 2, 127, 128, 258, 0x0102030405060708, 0xfffefdfcfbfaf9f8, math.MaxUint64 - 1, math.MaxUint64}
	for size := 1; size < 8; size++ {
		limit := uint64(1) << (8 * size)
		l = append(l, limit-2, limit-1, limit, limit+1, limit<<7)
	}
	b := uint64(88172645463325252)
	for i := range 200 {
		b ^= b << 13
		b ^= b >> 7
		b ^= b << 17
		l = append(l, b>>(i%64))
	}
	return l
}

// bytesNeeded is how many bytes a number has, without those 0 above its highest other one.
func bytesNeeded(n uint64) int {
	count := 0
	for ; n > 0; n /= 256 {
		count++
	}
	return count
}

// lowest is a number's eight bytes, as the library has them.
func lowest(n uint64) string { return string(binary.LittleEndian.AppendUint64(nil, n)) }

// P2.1, O1: Put.

func TestPut(t *testing.T) {
	for _, c := range []struct {
		n    uint64
		size int
		want string
	}{
		{258, 3, "\x02\x01\x00"}, {258, 2, "\x02\x01"}, {0, 0, ""}, {0, 1, "\x00"}, {7, 1, "\x07"},
		{255, 1, "\xff"}, {256, 2, "\x00\x01"}, {1, 8, "\x01\x00\x00\x00\x00\x00\x00\x00"},
		{0x0102030405060708, 8, "\x08\x07\x06\x05\x04\x03\x02\x01"},
		{math.MaxUint64, 8, "\xff\xff\xff\xff\xff\xff\xff\xff"},
	} {
		if got, err := Put(c.n, c.size); got != c.want || err != api.OK {
			t.Errorf("Put(%d, %d) = %q, %d, want %q", c.n, c.size, got, err, c.want)
		}
	}
}

func TestPutOfEachSize(t *testing.T) {
	for _, n := range edgeNumbers() {
		for size := 0; size <= 8; size++ {
			want, wantErr := lowest(n)[:size], api.OK
			if bytesNeeded(n) > size {
				want, wantErr = "", api.ErrRange
			}
			if got, err := Put(n, size); got != want || err != wantErr {
				t.Errorf("Put(%x, %d) = %q, %d, want %q, %d", n, size, got, err, want, wantErr)
			}
		}
	}
}

func TestPutOfNoSize(t *testing.T) {
	for _, n := range edgeNumbers() {
		for _, size := range noSizes() {
			if got, err := Put(n, size); got != "" || err != api.ErrArg {
				t.Errorf("Put(%x, %d) = %q, %d, want ErrArg", n, size, got, err)
			}
		}
	}
}

// P2.1, O1: Join.

func TestJoin(t *testing.T) {
	for _, c := range []struct {
		sizes []int
		l     []uint64
		want  string
		err   api.Errno
	}{
		{nil, nil, "", api.OK}, {[]int{}, []uint64{}, "", api.OK},
		{[]int{0}, []uint64{0}, "", api.OK}, {[]int{0, 0, 0}, []uint64{0, 0, 0}, "", api.OK},
		{[]int{1, 0, 4}, []uint64{7, 0, 258}, "\x07\x02\x01\x00\x00", api.OK},
		{[]int{4, 1}, []uint64{7, 2}, "\x07\x00\x00\x00\x02", api.OK},
		{[]int{8, 1}, []uint64{math.MaxUint64, 0}, "\xff\xff\xff\xff\xff\xff\xff\xff\x00", api.OK},
		{[]int{1, 2}, []uint64{255, 65535}, "\xff\xff\xff", api.OK},
		{[]int{1, 2}, []uint64{256, 1}, "", api.ErrRange}, {[]int{1, 2}, []uint64{1, 65536}, "", api.ErrRange},
		{[]int{0}, []uint64{1}, "", api.ErrRange}, {[]int{1, 0}, []uint64{1, math.MaxUint64}, "", api.ErrRange},
		{[]int{1}, nil, "", api.ErrArg}, {nil, []uint64{1}, "", api.ErrArg},
		{[]int{1, 1}, []uint64{1}, "", api.ErrArg}, {[]int{1}, []uint64{1, 1}, "", api.ErrArg},
		{[]int{0}, nil, "", api.ErrArg}, {nil, []uint64{0}, "", api.ErrArg},
		{[]int{9}, []uint64{0}, "", api.ErrArg}, {[]int{-1}, []uint64{0}, "", api.ErrArg},
	} {
		if got, err := Join(c.sizes, c.l...); got != c.want || err != c.err {
			t.Errorf("Join(%v, %v) = %q, %d, want %q, %d", c.sizes, c.l, got, err, c.want, c.err)
		}
	}
}

// An error of a size, or of how many there are, is told ahead of one of a number, wherever both stand.
func TestJoinTellsSizesFirst(t *testing.T) {
	for _, bad := range noSizes() {
		for at := range 4 {
			for tooGreat := range 4 {
				sizes, l := []int{1, 1, 1, 1}, []uint64{1, 1, 1, 1}
				l[tooGreat] = 256
				if got, err := Join(sizes, l...); got != "" || err != api.ErrRange {
					t.Errorf("Join(%v, %v) = %q, %d, want ErrRange", sizes, l, got, err)
				}
				sizes[at] = bad
				if got, err := Join(sizes, l...); got != "" || err != api.ErrArg {
					t.Errorf("Join(%v, %v) = %q, %d, want ErrArg", sizes, l, got, err)
				}
			}
		}
	}
	for _, sizes := range [][]int{nil, {}, {1}, {1, 1}, {1, 1, 1, 1}} {
		if got, err := Join(sizes, 256, 1, 256); got != "" || err != api.ErrArg {
			t.Errorf("Join(%v, of three) = %q, %d, want ErrArg", sizes, got, err)
		}
	}
}

// P2.1, O2: Get.

func TestGet(t *testing.T) {
	for _, c := range []struct {
		s     string
		sizes []int
		want  []uint64
		rest  string
	}{
		{"", nil, nil, ""}, {"abc", nil, nil, "abc"}, {"abc", []int{}, nil, "abc"},
		{"", []int{0}, []uint64{0}, ""}, {"abc", []int{0, 0}, []uint64{0, 0}, "abc"},
		{"\x07\x02\x01xy", []int{1, 2}, []uint64{7, 258}, "xy"},
		{"\x07\x02\x01", []int{1, 2}, []uint64{7, 258}, ""}, {"\x07\x02\x01", []int{2, 1}, []uint64{519, 1}, ""},
		{"\x07\x02\x01", []int{1, 2, 0}, []uint64{7, 258, 0}, ""},
		{"\x00\x00\x00\x00\x05", []int{4}, []uint64{0}, "\x05"},
		{"\x08\x07\x06\x05\x04\x03\x02\x01\x00", []int{8}, []uint64{0x0102030405060708}, "\x00"},
		{"\xff\xff\xff\xff\xff\xff\xff\xff", []int{8}, []uint64{math.MaxUint64}, ""},
		{"\xff\xff\xff\xff\xff\xff\xff\xff", []int{1, 7}, []uint64{255, 1<<56 - 1}, ""},
		{"\xc3\xa9\x80", []int{1}, []uint64{0xc3}, "\xa9\x80"}, // bytes, no letters
	} {
		l, rest, err := Get(c.s, c.sizes...)
		if !slices.Equal(l, c.want) || rest != c.rest || err != api.OK {
			t.Errorf("Get(%q, %v) = %v, %q, %d, want %v, %q", c.s, c.sizes, l, rest, err, c.want, c.rest)
		}
	}
}

func checkGetFails(t *testing.T, want api.Errno, s string, sizes ...int) {
	t.Helper()
	if l, rest, err := Get(s, sizes...); len(l) != 0 || rest != "" || err != want {
		t.Errorf("Get(%q, %v) = %v, %q, %d, want %d alone", s, sizes, l, rest, err, want)
	}
}

func TestGetOfTooFewBytes(t *testing.T) {
	for size := 1; size <= 8; size++ {
		for have := range size {
			s := strings.Repeat("\x01", have)
			checkGetFails(t, api.ErrCut, s, size)
			checkGetFails(t, api.ErrCut, s, 0, size)
			checkGetFails(t, api.ErrCut, "abc"+s, 1, 2, size)
			checkGetFails(t, api.ErrCut, "abc"+s, 3, size, 0)
			checkGetFails(t, api.ErrCut, s, size, 0, size)
		}
	}
	checkGetFails(t, api.ErrCut, "ab", 1, 2)
	checkGetFails(t, api.ErrCut, "ab", 1, 1, 1)
	checkGetFails(t, api.ErrCut, "", slices.Repeat([]int{8}, 1000)...)
}

// An error of a size is told ahead of too few bytes, wherever both stand.
func TestGetTellsSizesFirst(t *testing.T) {
	for _, bad := range noSizes() {
		for _, s := range []string{"", "a", "abcdefghijklmnop"} {
			checkGetFails(t, api.ErrArg, s, bad)
			checkGetFails(t, api.ErrArg, s, bad, 8, 8, 8)
			checkGetFails(t, api.ErrArg, s, 8, 8, 8, bad)
			checkGetFails(t, api.ErrArg, s, 0, bad, 0)
		}
	}
	checkGetFails(t, api.ErrArg, "ab", 3, 9)
	checkGetFails(t, api.ErrArg, "ab", -1, 3)
}

func TestGetOfMany(t *testing.T) {
	const many = 100000
	l, rest, err := Get(strings.Repeat("\x01\x02\x03", many)+"end", slices.Repeat([]int{3}, many)...)
	if len(l) != many || rest != "end" || err != api.OK {
		t.Fatalf("Get of many: %d of them, %q, %d", len(l), rest, err)
	}
	for i, n := range l {
		if n != 0x030201 {
			t.Fatalf("number %d is %x", i, n)
		}
	}
}

// P2.1, O2: Pad.

func TestPad(t *testing.T) {
	const most = 1 << 20
	full := strings.Repeat("x", most)
	for _, c := range []struct {
		s    string
		size int
		err  api.Errno
	}{
		{"", 0, api.OK}, {"", 1, api.OK}, {"a", 1, api.OK}, {"a", 3, api.OK}, {"\x00\x00", 5, api.OK}, {"\xff\xc3", 4, api.OK},
		{"", most, api.OK}, {"a", most, api.OK}, {full, most, api.OK}, {full[1:], most, api.OK}, {full[1:], most - 1, api.OK},
		{"a", 0, api.ErrRange}, {"abc", 2, api.ErrRange}, {"\x00\x00", 1, api.ErrRange}, {full, most - 1, api.ErrRange},
		{"", -1, api.ErrRange}, {"a", -1, api.ErrRange}, {"", math.MinInt, api.ErrRange}, {"a", -1 << 32, api.ErrRange},
		{"", most + 1, api.ErrRange}, {"a", most + 1, api.ErrRange}, {full, most + 1, api.ErrRange},
		{full + "x", most, api.ErrRange}, {full + "x", most + 1, api.ErrRange},
		{"", 1<<32 + 1, api.ErrRange}, {"", math.MaxInt, api.ErrRange}, {"abc", math.MaxInt, api.ErrRange},
	} {
		want := ""
		if c.err == api.OK {
			want = string(append([]byte(c.s), make([]byte, c.size-len(c.s))...))
		}
		if got, err := Pad(c.s, c.size); got != want || err != c.err {
			t.Errorf("Pad of %d bytes to %d: %d bytes, %d, want %d, %d", len(c.s), c.size, len(got), err, len(want), c.err)
		}
	}
}

// P2.1, O2: Zero.

func TestZero(t *testing.T) {
	for length := range 20 {
		s := strings.Repeat("\x00", length)
		if !Zero(s) {
			t.Errorf("Zero(%q) is false", s)
		}
		for at := range length {
			for _, other := range []string{"\x01", "\x80", "\xff", "0", " "} {
				if turned := s[:at] + other + s[at+1:]; Zero(turned) {
					t.Errorf("Zero(%q) is true", turned)
				}
			}
		}
	}
	if Zero("0") || Zero(" ") || Zero("\\x00") || Zero("\xc0\x80") {
		t.Error("letters are no bytes 0")
	}
}

func TestPaddingIsZero(t *testing.T) {
	for _, s := range []string{"", "\x00", "abc", "\xff"} {
		padded, err := Pad(s, 64)
		if err != api.OK || padded[:len(s)] != s || !Zero(padded[len(s):]) || Zero(padded) != Zero(s) {
			t.Errorf("Pad(%q, 64) = %q, %d", s, padded, err)
		}
	}
}

// P2.2: there and back.

func TestWhatWasJoinedIsGot(t *testing.T) {
	numbers := edgeNumbers()
	for count := range 12 {
		for from := 0; from+count <= len(numbers); from++ {
			l := numbers[from : from+count]
			var sizes []int
			whole := ""
			for i, n := range l {
				size := min(8, bytesNeeded(n)+(from+i)%3)
				sizes, whole = append(sizes, size), whole+lowest(n)[:size]
			}
			joined, err := Join(sizes, l...)
			if joined != whole || err != api.OK {
				t.Fatalf("Join(%v, %v) = %q, %d, want %q", sizes, l, joined, err, whole)
			}
			for _, behind := range []string{"", "x", "\x00\x00", joined} {
				got, rest, err := Get(joined+behind, sizes...)
				if !slices.Equal(got, l) || rest != behind || err != api.OK {
					t.Fatalf("Get(%q, %v) = %v, %q, %d", joined+behind, sizes, got, rest, err)
				}
			}
		}
	}
}

func TestWhatWasPutIsGot(t *testing.T) {
	for _, n := range edgeNumbers() {
		for size := bytesNeeded(n); size <= 8; size++ {
			s, err := Put(n, size)
			l, rest, getErr := Get(s, size)
			if err != api.OK || getErr != api.OK || len(s) != size || !slices.Equal(l, []uint64{n}) || rest != "" {
				t.Errorf("Put(%x, %d) = %q, %d, and back %v, %q, %d", n, size, s, err, l, rest, getErr)
			}
		}
	}
}

func TestWhatWasGotIsJoinedAgain(t *testing.T) {
	s := strings.Repeat("\x00\xff\x01\x80abc\x00", 8)
	for a := range 9 {
		for b := range 9 {
			l, rest, err := Get(s, a, b, a)
			joined, joinErr := Join([]int{a, b, a}, l...)
			if err != api.OK || joinErr != api.OK || joined+rest != s {
				t.Errorf("Get of %d, %d, %d: %v, %q, %d, joined %q, %d", a, b, a, l, rest, err, joined, joinErr)
			}
		}
	}
}

// The rules that hold everywhere: nothing that is handed in is written into, nor what lies behind it, and an answer is new memory.

func TestArgumentsStay(t *testing.T) {
	sizes, numbers := []int{1, 2, 3, 77, 77}, []uint64{5, 6, 7, 99, 99}
	for _, upto := range []int{2, 3, 4} {
		Join(sizes[:upto], numbers[:3]...)
		Get("abcdef", sizes[:upto]...)
		Get("a", sizes[:upto]...)
	}
	if !slices.Equal(sizes, []int{1, 2, 3, 77, 77}) || !slices.Equal(numbers, []uint64{5, 6, 7, 99, 99}) {
		t.Errorf("the arguments are %v and %v now", sizes, numbers)
	}
}

func TestAnswersShareNothing(t *testing.T) {
	sizes := []int{1, 1, 0}
	one, _, _ := Get("\x01\x02", sizes...)
	two, _, _ := Get("\x01\x02", sizes...)
	clear(one)
	clear(one[:cap(one)])
	clear(sizes)
	if !slices.Equal(two, []uint64{1, 2, 0}) {
		t.Errorf("the second answer is %v now", two)
	}
}

// P1 and P2: no call panics, and each answers the same again, also behind one that stopped.

type answers struct {
	put, join, rest, pad               string
	putErr, joinErr, getErr, padErr    api.Errno
	numbers, firstNumber, secondNumber uint64
	zero                               bool
}

func ask(n uint64, a, b int) answers {
	var x answers
	x.put, x.putErr = Put(n, a)
	x.join, x.joinErr = Join([]int{a, b}, n, 3)
	l, rest, err := Get("\x01\x02\x03\x04\x05\x06\x07\x08\x09\x0a", a, b)
	x.numbers, x.rest, x.getErr = uint64(len(l)), rest, err
	if len(l) == 2 {
		x.firstNumber, x.secondNumber = l[0], l[1]
	}
	x.pad, x.padErr = Pad("ab\x00", a)
	x.zero = Zero(x.put)
	return x
}

func TestCallsAnswerTheSameAgain(t *testing.T) {
	sizes := append(noSizes(), 0, 1, 2, 3, 4, 5, 6, 7, 8)
	var first []answers
	for range 2 {
		at := 0
		for _, n := range edgeNumbers()[:40] {
			for _, a := range sizes {
				for _, b := range sizes {
					x := ask(n, a, b)
					if at == len(first) {
						first = append(first, x)
					} else if first[at] != x {
						t.Fatalf("%x, %d, %d: %v, and then %v", n, a, b, first[at], x)
					}
					at++
				}
			}
		}
	}
}
