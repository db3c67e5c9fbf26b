package command

import (
	"fmt"
	"math"
	"math/rand"
	"strings"
	"testing"
	"unsafe"

	"oakum/api"
)

// P21.2 (there and back), and P1 and P2, whatever is handed in.

// letters are those of which texts are made, and some of which none is.
const letters = "0123456789 -abcdefgilmnoprstw+_.ADEFRSW\x00\n\t/:`@\x7f\xff\xc3"

// Each byte of a text is another one, or left out, or one more stands there.
func TestAnotherByte(t *testing.T) {
	for _, x := range whole {
		for at := range len(x.text) + 1 {
			ahead, behind := x.text[:at], x.text[at:]
			for b := range 256 {
				one := string([]byte{byte(b)})
				checkParsed(t, "one more", ahead+one+behind)
				if behind != "" {
					checkParsed(t, "another one", ahead+one+behind[1:])
				}
			}
			if behind != "" {
				checkParsed(t, "one less", ahead+behind[1:])
			}
			checkParsed(t, "cut off", ahead)
			checkParsed(t, "cut off ahead", behind)
		}
	}
}

// maker makes commands and texts in no order.
type maker struct{ *rand.Rand }

func (r maker) op() string {
	return []string{"read", "write", "create", "delete", "merge", "step"}[r.Intn(6)]
}

// number is one of a command: one that a text has, if it is right.
func (r maker) number(right bool) int {
	if !right && r.Intn(6) == 0 {
		return []int{-1, greatestNumber + 1, math.MaxInt, math.MinInt, -r.Intn(1 << 40), greatestNumber + r.Intn(1<<40)}[r.Intn(6)]
	}
	switch r.Intn(4) {
	case 0:
		return r.Intn(12)
	case 1:
		return []int{0, 1, 10, greatestNumber - 1, greatestNumber}[r.Intn(5)]
	}
	return r.Intn(1 << (1 + r.Intn(31)))
}

func (r maker) data() string {
	b := make([]byte, r.Intn(3)*r.Intn(50))
	r.Read(b)
	return string(b)
}

// command is one that has a text, if it is right.
func (r maker) command(right bool) api.Command {
	c := api.Command{Op: r.op(), ID: r.number(right), At: r.number(right), N: r.number(right), Data: r.data()}
	if right || r.Intn(3) > 0 {
		return asked(c)
	}
	if r.Intn(4) == 0 {
		c.Op = otherOps()[r.Intn(len(otherOps()))]
	}
	return c
}

func TestManyCommands(t *testing.T) {
	r, told := maker{rand.New(rand.NewSource(1))}, map[api.Errno]int{}
	for k := range 60000 {
		right := k%2 == 0
		err := checkPrinted(t, fmt.Sprint("command ", k), r.command(right))
		if right && err != api.OK {
			t.Fatalf("command %d: error %d", k, err)
		}
		told[err]++
	}
	if told[api.OK] < 30000 || told[api.ErrArg] < 5000 || len(told) != 2 {
		t.Errorf("told %v", told)
	}
}

// text is one of a command, or nearly.
func (r maker) text() string {
	words := strings.Split(plainText(r.command(true)), " ")
	if r.Intn(4) == 0 {
		i := r.Intn(len(words))
		switch r.Intn(5) {
		case 0:
			words[i] = wrongNumbers()[r.Intn(60)]
		case 1:
			words = append(words[:i], words[i+1:]...)
		case 2:
			words = append(words, words[i])
		case 3:
			words[i] = r.op()
		case 4:
			words[i] = fmt.Sprint(r.number(false))
		}
	}
	return strings.Join(words, " ")
}

func TestManyTexts(t *testing.T) {
	r, told := maker{rand.New(rand.NewSource(2))}, map[api.Errno]int{}
	for k := range 60000 {
		told[checkParsed(t, fmt.Sprint("text ", k), r.text())]++
	}
	if told[api.OK] < 30000 || told[api.ErrForm] < 5000 || len(told) != 2 {
		t.Errorf("told %v", told)
	}
}

// P1: any bytes at all.
func TestAnyTexts(t *testing.T) {
	r := maker{rand.New(rand.NewSource(3))}
	for k := range 60000 {
		b := make([]byte, r.Intn(30))
		r.Read(b)
		if r.Intn(2) == 0 {
			for j := range b {
				b[j] = letters[int(b[j])%len(letters)]
			}
		}
		s := string(b)
		checkParsed(t, fmt.Sprint("any ", k), s)
		checkParsed(t, fmt.Sprint("any behind ", k), r.op()+s)
		checkParsed(t, fmt.Sprint("any words ", k), r.op()+" "+s)
		checkParsed(t, fmt.Sprint("any bytes ", k), "write 1 2 "+s)
		checkPrinted(t, fmt.Sprint("any Op ", k), api.Command{Op: s})
		checkPrinted(t, fmt.Sprint("any data ", k), api.Command{Op: r.op(), Data: s})
	}
}

// All short texts of some letters.
func TestShortTexts(t *testing.T) {
	for _, op := range []string{"", "step", "create", "create ", "delete ", "merge ", "read 0 ", "read 1 2 ", "write 1 ", "write 1 2 "} {
		texts := []string{""}
		for range 4 {
			var longer []string
			for _, s := range texts {
				for _, letter := range []string{" ", "-", "0", "1", "9", "a", "F", "\xff"} {
					longer = append(longer, s+letter)
					checkParsed(t, "short", op+s+letter)
				}
			}
			texts = longer
		}
	}
}

// Long ones that are no command's.
func TestLongTexts(t *testing.T) {
	for _, s := range []string{
		strings.Repeat(" ", 1<<22), strings.Repeat("1", 1<<22), strings.Repeat("read 1 2 3 ", 1<<18), "step" + strings.Repeat(" ", 1<<22), "create " + strings.Repeat("0", 1<<22), "create " + strings.Repeat("9", 1<<22),
		"read 1 1" + strings.Repeat(" 1", 1<<20), "write 1 1 " + strings.Repeat("f", 1<<22+1), "write 1 1 " + strings.Repeat("f", 1<<22) + " ", "write 1 1 " + strings.Repeat("\xff", 1<<22), "write 1 1 " + strings.Repeat("-", 1<<22),
	} {
		if c, err := Parse(s); err != api.ErrForm || c != (api.Command{}) {
			t.Errorf("%.20q: error %d", s, err)
		}
		if text, err := Print(api.Command{Op: s}); err != api.ErrArg || text != "" {
			t.Errorf("Op %.20q: error %d", s, err)
		}
	}
}

// P2: the same again, whatever was asked between.
func TestTheSameAgain(t *testing.T) {
	r := maker{rand.New(rand.NewSource(5))}
	type answers struct {
		text     string
		command  api.Command
		printErr api.Errno
		parseErr api.Errno
	}
	ask := func(c api.Command, s string) (a answers) {
		a.text, a.printErr = Print(c)
		a.command, a.parseErr = Parse(s)
		return a
	}
	var commands []api.Command
	var texts []string
	var first []answers
	for range 1000 {
		c, s := r.command(r.Intn(2) == 0), r.text()
		commands, texts, first = append(commands, c), append(texts, s), append(first, ask(c, s))
	}
	for _, k := range r.Perm(1000) {
		if a := ask(commands[k], texts[k]); a != first[k] {
			t.Fatalf("%+v, and first %+v", a, first[k])
		}
	}
}

// shares tells whether two texts have memory in common.
func shares(a, b string) bool {
	from, of := uintptr(unsafe.Pointer(unsafe.StringData(a))), uintptr(unsafe.Pointer(unsafe.StringData(b)))
	return a != "" && b != "" && from < of+uintptr(len(b)) && of < from+uintptr(len(a))
}

// Rule 4: what is answered is new memory.
func TestNewMemory(t *testing.T) {
	for _, x := range whole {
		s := strings.Clone(x.text)
		c, err := Parse(s)
		if err != api.OK || shares(c.Op, s) || shares(c.Data, s) {
			t.Errorf("%+v, error %d, shares memory with its text", c, err)
		}
		c = x.command
		c.Op, c.Data = strings.Clone(c.Op), strings.Clone(c.Data)
		s, err = Print(c)
		if err != api.OK || shares(c.Op, s) || shares(c.Data, s) {
			t.Errorf("%q, error %d, shares memory with its command", s, err)
		}
	}
}
