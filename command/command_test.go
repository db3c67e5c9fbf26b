package command

import (
	"fmt"
	"math"
	"slices"
	"strings"
	"testing"

	"oakum/api"
)

// greatestNumber is the greatest that a command's text has.
const greatestNumber = 2147483647

// whole are commands of each Op, with all that their texts have, and these.
var whole = []struct {
	command api.Command
	text    string
}{
	{api.Command{Op: "read", ID: 3, At: 12, N: 45}, "read 3 12 45"},
	{api.Command{Op: "write", ID: 2, At: 70, Data: "\x00\x1f\xa9"}, "write 2 70 001fa9"},
	{api.Command{Op: "create", N: 7}, "create 7"},
	{api.Command{Op: "delete", ID: 16}, "delete 16"},
	{api.Command{Op: "merge", ID: 1}, "merge 1"},
	{api.Command{Op: "step"}, "step"},
}

// numbersOf are a command's numbers.
func numbersOf(c *api.Command) []*int { return []*int{&c.ID, &c.At, &c.N} }

// hasNumber tells which of its numbers the text of a command has, by its Op.
func hasNumber(op string) []bool {
	return map[string][]bool{
		"read": {true, true, true}, "write": {true, true, false}, "create": {false, false, true},
		"delete": {true, false, false}, "merge": {true, false, false}, "step": {false, false, false},
	}[op]
}

// P21.1, N1: each Op.

func TestTexts(t *testing.T) {
	for _, x := range whole {
		checkHas(t, x.command, x.text)
	}
	for _, x := range []struct {
		command api.Command
		text    string
	}{
		{api.Command{Op: "read"}, "read 0 0 0"},
		{api.Command{Op: "read", N: 1}, "read 0 0 1"},
		{api.Command{Op: "read", At: 1}, "read 0 1 0"},
		{api.Command{Op: "read", ID: 1}, "read 1 0 0"},
		{api.Command{Op: "read", ID: 17, At: 1048576, N: 100}, "read 17 1048576 100"},
		{api.Command{Op: "read", ID: greatestNumber, At: greatestNumber, N: greatestNumber}, "read 2147483647 2147483647 2147483647"},
		{api.Command{Op: "write"}, "write 0 0 -"},
		{api.Command{Op: "write", ID: 1, At: 20}, "write 1 20 -"},
		{api.Command{Op: "write", Data: "-"}, "write 0 0 2d"},
		{api.Command{Op: "write", Data: "\x00"}, "write 0 0 00"},
		{api.Command{Op: "write", Data: "ab é\n"}, "write 0 0 616220c3a90a"},
		{api.Command{Op: "write", Data: "\xff\xfe\x80"}, "write 0 0 fffe80"},
		{api.Command{Op: "write", ID: greatestNumber, At: greatestNumber, Data: "\x01\x23\x45\x67\x89\xab\xcd\xef"}, "write 2147483647 2147483647 0123456789abcdef"},
		{api.Command{Op: "create"}, "create 0"},
		{api.Command{Op: "create", N: greatestNumber}, "create 2147483647"},
		{api.Command{Op: "delete"}, "delete 0"},
		{api.Command{Op: "delete", ID: greatestNumber}, "delete 2147483647"},
		{api.Command{Op: "merge"}, "merge 0"},
		{api.Command{Op: "merge", ID: greatestNumber}, "merge 2147483647"},
	} {
		checkHas(t, x.command, x.text)
	}
}

// Print.

// Each number of each Op at its edges: those that a text has, and those that it doesn't.
func TestEachNumber(t *testing.T) {
	right := []int{0, 1, 9, 10, 11, 99, 100, 1<<16 - 1, 1 << 16, 1 << 20, 999999999, 1000000000, 2147483639, 2147483640, greatestNumber - 1, greatestNumber}
	wrong := []int{
		-1, -2, -10, math.MinInt32, math.MinInt32 - 1, -greatestNumber, math.MinInt, math.MinInt + 1, -1 << 32, -1<<32 + 1,
		greatestNumber + 1, greatestNumber + 2, 2147483650, math.MaxUint32, 1 << 32, 1<<32 + 1, 1 << 62, math.MaxInt - 1, math.MaxInt,
	}
	for _, x := range whole {
		for i, has := range hasNumber(x.command.Op) {
			for _, n := range append(slices.Clone(right), wrong...) {
				c := x.command
				*numbersOf(&c)[i] = n
				want := api.ErrArg
				if has && slices.Contains(right, n) || n == 0 {
					want = api.OK
				}
				if err := checkPrinted(t, fmt.Sprint("number ", i), c); err != want {
					t.Errorf("%+v: error %d, want %d", c, err, want)
				}
			}
		}
	}
}

// What its text does not have is nothing in a command.
func TestEachField(t *testing.T) {
	for _, x := range whole {
		for i, has := range hasNumber(x.command.Op) {
			if !has {
				c := x.command
				*numbersOf(&c)[i] = 1
				checkHasNone(t, "a number", c)
			}
		}
		for _, data := range []string{"x", "\x00", " ", "-", "00", strings.Repeat("a", api.Sector)} {
			c := x.command
			c.Data = data
			if c.Op == "write" {
				checkPrinted(t, "data", c)
				continue
			}
			checkHasNone(t, "data", c)
		}
		bare := api.Command{Op: x.command.Op}
		for k := range 16 {
			c := bare
			for i, n := range numbersOf(&c) {
				*n = k >> i & 1
			}
			c.Data = strings.Repeat("d", k>>3)
			want := api.OK
			if asked(c) != c {
				want = api.ErrArg
			}
			if err := checkPrinted(t, "some", c); err != want {
				t.Errorf("%+v: error %d, want %d", c, err, want)
			}
		}
	}
}

// otherOps are words that are no Op's, and texts that are no words.
func otherOps() []string {
	return []string{
		"", " ", "x", "r", "rea", "reads", "READ", "Read", "wRite", "Step", "STEP", "steps", "ste", "reed", "writ", "deleted", "creat", "merges", " read", "read ", " step", "step ", "step\n", "\nstep", "step\x00", "read 0 0",
		"read 0 0 0", "create 1", "create1", "read\t", "fail", "restart", "up", "status", "check", "dump", "estimate", "format", "flush", "-", "0", "1", "ian", "i", "n", "iad", "é", "\xff", "ｓｔｅｐ", "readwrite", strings.Repeat("step", 1000),
	}
}

func TestNoSuchOp(t *testing.T) {
	for _, op := range otherOps() {
		checkHasNone(t, "alone", api.Command{Op: op})
		for _, x := range whole {
			c := x.command
			c.Op = op
			checkHasNone(t, "as "+x.command.Op, c)
		}
	}
	checkHasNone(t, "nothing", api.Command{})
}

// Much is wrong at once.
func TestMuchWrong(t *testing.T) {
	checkHasNone(t, "all", api.Command{Op: "none", ID: -1, At: 1 << 31, N: -5, Data: "x"})
	checkHasNone(t, "numbers", api.Command{Op: "read", ID: -1, At: 1 << 31, N: math.MinInt, Data: "x"})
	checkHasNone(t, "one wrong, one not of it", api.Command{Op: "create", ID: 3, N: -1})
}

// Data.

func TestEachByte(t *testing.T) {
	for b := range 256 {
		one := string([]byte{byte(b)})
		checkHas(t, api.Command{Op: "write", ID: 1, At: 2, Data: one}, fmt.Sprintf("write 1 2 %02x", b))
		checkHas(t, api.Command{Op: "write", Data: "a" + one + one + "z"}, fmt.Sprintf("write 0 0 61%02x%02x7a", b, b))
		checkHas(t, api.Command{Op: "write", Data: one + "\xc3"}, fmt.Sprintf("write 0 0 %02xc3", b))
	}
}

func TestData(t *testing.T) {
	checkHas(t, api.Command{Op: "write", ID: 4, At: 5}, "write 4 5 -")
	all, figures := "", ""
	for b := range 256 {
		all += string([]byte{byte(b)})
		figures += fmt.Sprintf("%02x", b)
	}
	checkHas(t, api.Command{Op: "write", Data: all}, "write 0 0 "+figures)
	for n := range 200 {
		data := strings.Repeat("k", n)
		checkPrinted(t, fmt.Sprint(n, " bytes"), api.Command{Op: "write", At: n, Data: data})
		checkParsed(t, fmt.Sprint(n, " figures"), "write 0 0 "+strings.Repeat("7", n))
	}
	long := strings.Repeat(all, 1<<14)
	checkHas(t, api.Command{Op: "write", ID: 1, Data: long}, "write 1 0 "+strings.Repeat(figures, 1<<14))
}

// Parse.

func TestNoText(t *testing.T) {
	for _, s := range []string{"", " ", "  ", "\n", "\x00", "-", "0", "0 0 0", "1", "\xff", "é", " 0 0 0"} {
		checkNone(t, "no text", s)
	}
	for _, op := range otherOps() {
		for _, behind := range []string{" 0 0 0 0", " 1 2 3 4 5 6", " 0 0 - 0", " 0 0 00 x"} {
			checkNone(t, "no such Op", op+behind)
		}
		if !strings.HasPrefix(op, "read 0 0") && op != "create 1" {
			checkNone(t, "no such Op, alone", op)
		}
	}
	for _, op := range []string{"reads", "READ", "Write", "creat", "fail", "-", "0", "i"} {
		for _, behind := range []string{" ", " 0", " 0 0", " 0 0 0", " 0 0 -", " 0 0 00"} {
			checkNone(t, "no such Op", op+behind)
		}
	}
}

// The words behind an Op are those of another one.
func TestWordsOfOthers(t *testing.T) {
	for _, s := range []string{
		"read 2 70 001fa9", "read 2 70 -", "read 7", "read", "write 3 12 451", "write 7", "write", "create 3 12 45", "create 2 70 001fa9", "create -", "create ff", "create",
		"delete 3 12 45", "delete 2 70 001fa9", "delete", "merge 3 12 45", "merge 2 70 001fa9", "merge", "step 3 12 45", "step 2 70 001fa9", "step 7",
	} {
		checkNone(t, "words of others", s)
	}
	checkHas(t, api.Command{Op: "read", ID: 3, At: 12, N: 45}, "read 3 12 45")
	checkHas(t, api.Command{Op: "write", ID: 3, At: 12, Data: "\x45"}, "write 3 12 45")
}

// Words are too few, too many, others, or in another order.
func TestWords(t *testing.T) {
	others := append(otherOps(), "read", "write", "create", "delete", "merge", "step", "00", "ff", "FF", "-1", "2147483648")
	for _, x := range whole {
		words := strings.Split(x.text, " ")
		for k := range words {
			less := slices.Delete(slices.Clone(words), k, k+1)
			checkNone(t, "a word less", strings.Join(less, " "))
			checkNone(t, "less words", strings.Join(words[:k], " "))
			if k > 0 {
				checkNone(t, "words from there", strings.Join(words[k:], " "))
				checkNone(t, "no word there", strings.Join(words[:k], " ")+" ")
			}
			for _, w := range append(others, words...) {
				other := slices.Clone(words)
				other[k] = w
				checkParsed(t, "another word", strings.Join(other, " "))
				checkNone(t, "one more", strings.Join(slices.Insert(slices.Clone(words), k, w), " "))
				checkNone(t, "one more behind", x.text+" "+w)
			}
			for j := range words {
				other := slices.Clone(words)
				other[k], other[j] = other[j], other[k]
				checkParsed(t, "words elsewhere", strings.Join(other, " "))
			}
		}
		checkNone(t, "twice", x.text+" "+x.text)
		checkNone(t, "by lines", x.text+"\n"+x.text)
		for _, w := range []string{"", "0", "1", "x", "-", "00"} {
			checkNone(t, "a word behind", x.text+" "+w)
			checkNone(t, "a word ahead", w+" "+x.text)
		}
	}
}

// Blanks are more or fewer, others, ahead or behind.
func TestBlanks(t *testing.T) {
	for _, x := range whole {
		s := x.text
		for _, blank := range []string{" ", "  ", "\t", "\n", "\r", "\r\n", "\v", "\x00", "\u00a0", ";", "."} {
			checkNone(t, "ahead", blank+s)
			checkNone(t, "behind", s+blank)
			checkNone(t, "ahead and behind", blank+s+blank)
		}
		for k := range s {
			if s[k] != ' ' {
				continue
			}
			for _, blank := range []string{"  ", "   ", "\t", "\n", "\r", "\v", " \t", "\t ", "\x00", ",", ", ", "\u00a0", "\u2003", "_", "-", ":"} {
				checkNone(t, "between", s[:k]+blank+s[k+1:])
			}
			checkParsed(t, "none between", s[:k]+s[k+1:])
		}
	}
	for _, s := range []string{"read3 12 45", "read 312 45", "read 3 1245", "write2 70 001fa9", "write 270 001fa9", "write 2 70001fa9", "create7", "delete16", "merge1"} {
		checkNone(t, "none between", s)
	}
}

// wrongNumbers are words of none: with needless noughts, with signs, without figures, or of too great a number.
func wrongNumbers() []string {
	return []string{
		"", "-", "--", "00", "000", "01", "007", "0000000001", "00000000000000000000001", "02147483647", "+1", "-1", "-0", "+0", "+", "--1", "1-", "1+", "1.0", "1.", ".1", "1e3", "1E3", "0x1", "0X1F", "0b1", "0o7", "1_0", "_1", "1,000",
		"a", "f", "0a", "a0", "ff", "FF", "l", "O", "x", "1x", "x1", "\u0661", "\uff11", "1\x00", "\x001", "1\n", "\xff", "1\xff", "\xff1", "\xc3", "\u0130", "\U0001d7d8", "1\u0301", "inf", "NaN", "½", "²", "nil", "true", "1:", "1/", ":", "/",
		"2147483648", "2147483649", "2147483650", "2147483657", "2147483747", "2147484647", "3000000000", "4294967295", "4294967296", "4294967297", "5000000000", "9999999999", "10000000000", "21474836470", "9223372036854775807",
		"9223372036854775808", "18446744073709551615", "18446744073709551616", "18446744073709551617", "-2147483648", "-18446744073709551615", "340282366920938463463374607431768211457",
		strings.Repeat("9", 400), "1" + strings.Repeat("0", 400), strings.Repeat("0", 400) + "1", strings.Repeat("0", 400), strings.Repeat("1", 1<<12),
	}
}

func TestFigures(t *testing.T) {
	right := []string{"0", "1", "2", "3", "4", "5", "6", "7", "8", "9", "10", "101", "1234567890", "1999999999", "2000000000", "2147483639", "2147483640", "2147483646", "2147483647"}
	for _, x := range whole {
		words := strings.Split(x.text, " ")
		for k, w := range words {
			if k == 0 || x.command.Op == "write" && k == 3 {
				continue
			}
			for _, n := range right {
				words[k] = n
				if err := checkParsed(t, n, strings.Join(words, " ")); err != api.OK {
					t.Errorf("%q: error %d", words, err)
				}
			}
			for _, n := range wrongNumbers() {
				words[k] = n
				checkNone(t, "figures", strings.Join(words, " "))
			}
			words[k] = w
		}
	}
}

// All ten figures, at each place of a number.
func TestManyNumbers(t *testing.T) {
	for n := range 3000 {
		checkHas(t, api.Command{Op: "read", ID: n, At: n + 1, N: n + 2}, fmt.Sprintf("read %d %d %d", n, n+1, n+2))
	}
	for k := 1; k <= 1<<40; k *= 10 {
		for i := range 100 {
			for _, n := range []int{k * i, k*i - 1, k*i + 1} {
				checkPrinted(t, "number", api.Command{Op: "create", N: n})
				checkParsed(t, "number", fmt.Sprint("create ", n))
			}
		}
	}
	for n := greatestNumber - 300; n < greatestNumber+300; n++ {
		checkPrinted(t, "number", api.Command{Op: "merge", ID: n})
		checkParsed(t, "number", fmt.Sprint("merge ", n))
	}
}

// Figures of bytes that are odd in number, great letters, and what is no figure.
func TestFiguresOfBytes(t *testing.T) {
	for _, s := range []string{
		"", "0", "f", "000", "abc", "00f", "0123456789abcde", "FF", "Ff", "fF", "0A", "A0", "00FF", "ABCDEF", "0x00", "x0", "0x", "g0", "0g", "00gg", "zz", "--", "-0", "0-", "-00", "00-", "---", "----", "00--", "+1", "-1",
		"0_", "1:", "/1", "`a", "@1", "a`", "\x00\x00", "\xff", "\xff\xff", "0\xff", "\xff0", "0000\xc3\xa9", "\u00e9", "é0", "0é", "éé", "\u0661", "\uff11", "\uff41f", "½", "\u0130\u0130", "00\n", "\n", "0\n", "00\x00",
		"nothing", "nil", "ff,00", "ff:00", "0000 ", "\xf0\x9d\x9f\x98", "\ufffd", "\ufffd0", strings.Repeat("0", 1<<20+1), strings.Repeat("0", 1<<20) + "0g", "g0" + strings.Repeat("0", 1<<20),
	} {
		checkNone(t, "figures", "write 0 1 "+s)
	}
	for b := range 256 {
		one := string([]byte{byte(b)})
		for _, s := range []string{one, one + "0", "0" + one, one + one, "00" + one + "0", "000" + one, "0" + one + "00", one + "000"} {
			checkParsed(t, "a byte", "write 1 1 "+s)
		}
	}
	for a := range 128 {
		for b := range 128 {
			checkParsed(t, "two letters", "write 1 1 "+string([]byte{byte(a), byte(b)}))
		}
	}
}
