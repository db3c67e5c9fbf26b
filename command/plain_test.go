package command

import (
	"encoding/hex"
	"fmt"
	"math"
	"math/big"
	"regexp"
	"strings"
	"testing"

	"oakum/api"
)

// Plain texts, by the chapter's words, with the library's.

// plainText is the text that a command has by its Op, whatever its numbers are, and whatever else there is in it.
func plainText(c api.Command) string {
	bytes := hex.EncodeToString([]byte(c.Data))
	if bytes == "" {
		bytes = "-"
	}
	switch c.Op {
	case "read":
		return fmt.Sprintf("read %d %d %d", c.ID, c.At, c.N)
	case "write":
		return fmt.Sprintf("write %d %d %s", c.ID, c.At, bytes)
	case "create":
		return fmt.Sprintf("create %d", c.N)
	case "delete", "merge":
		return fmt.Sprintf("%s %d", c.Op, c.ID)
	case "step":
		return "step"
	}
	return ""
}

// asked is a command with just what its text has.
func asked(c api.Command) api.Command {
	switch c.Op {
	case "read":
		return api.Command{Op: "read", ID: c.ID, At: c.At, N: c.N}
	case "write":
		return api.Command{Op: "write", ID: c.ID, At: c.At, Data: c.Data}
	case "create":
		return api.Command{Op: "create", N: c.N}
	case "delete", "merge":
		return api.Command{Op: c.Op, ID: c.ID}
	}
	return api.Command{Op: c.Op}
}

// plainPrint is a command's text.
func plainPrint(c api.Command) (string, api.Errno) {
	s := plainText(c)
	for _, n := range []int{c.ID, c.At, c.N} {
		if n < 0 || n > math.MaxInt32 {
			return "", api.ErrArg
		}
	}
	if s == "" || asked(c) != c {
		return "", api.ErrArg
	}
	return s, api.OK
}

// The forms of texts; a number may still be too great.
var textForms = map[string]*regexp.Regexp{
	"read":   formRule("read ID AT N"),
	"write":  formRule("write ID AT DATA"),
	"create": formRule("create N"),
	"delete": formRule("delete ID"),
	"merge":  formRule("merge ID"),
	"step":   formRule("step"),
}

func formRule(s string) *regexp.Regexp {
	for _, name := range []string{"ID", "AT", "N"} {
		s = strings.ReplaceAll(s, " "+name, ` (?P<`+name+`>0|[1-9][0-9]*)`)
	}
	return regexp.MustCompile(`\A` + strings.ReplaceAll(s, "DATA", `(?P<DATA>-|(?:[0-9a-f][0-9a-f])+)`) + `\z`)
}

// plainParse is the command whose text it is.
func plainParse(s string) (api.Command, api.Errno) {
	for op, form := range textForms {
		m := form.FindStringSubmatch(s)
		if m == nil {
			continue
		}
		c := api.Command{Op: op}
		for i, name := range form.SubexpNames() {
			n, _ := new(big.Int).SetString(m[i], 10)
			switch {
			case name == "":
			case name == "DATA":
				b, _ := hex.DecodeString(strings.TrimPrefix(m[i], "-"))
				c.Data = string(b)
			case n.Cmp(big.NewInt(math.MaxInt32)) > 0:
				return api.Command{}, api.ErrForm
			default:
				*map[string]*int{"ID": &c.ID, "AT": &c.At, "N": &c.N}[name] = int(n.Int64())
			}
		}
		return c, api.OK
	}
	return api.Command{}, api.ErrForm
}

// checkPrinted holds a command's text against the plain one, and the command that is parsed from it against that command;
// the error that was told.
func checkPrinted(t testing.TB, what string, c api.Command) api.Errno {
	t.Helper()
	want, wantErr := plainPrint(c)
	s, err := Print(c)
	if err != wantErr || s != want {
		t.Fatalf("%s: text of %+v: %.200q, error %d, want %.200q, %d", what, c, s, err, want, wantErr)
	}
	if err != api.OK {
		return err
	}
	if again, err := Parse(s); err != api.OK || again != c {
		t.Fatalf("%s: parsed from the text %.200q: %+v, error %d, want %+v", what, s, again, err, c)
	}
	return err
}

// checkParsed holds the command that is parsed from a text against the plain one, and its text against that text; the
// error that was told.
func checkParsed(t testing.TB, what string, s string) api.Errno {
	t.Helper()
	want, wantErr := plainParse(s)
	c, err := Parse(s)
	if err != wantErr || c != want {
		t.Fatalf("%s: parsed from %.200q: %+v, error %d, want %+v, %d", what, s, c, err, want, wantErr)
	}
	if err != api.OK {
		return err
	}
	if again, err := Print(c); err != api.OK || again != s {
		t.Fatalf("%s: text of what is parsed from %.200q: %.200q, error %d", what, s, again, err)
	}
	return err
}

// checkHas holds that a command has a text, and that this is it.
func checkHas(t testing.TB, c api.Command, want string) {
	t.Helper()
	if s, err := Print(c); err != api.OK || s != want {
		t.Errorf("text of %+v: %.200q, error %d, want %.200q", c, s, err, want)
	}
	if x, err := Parse(want); err != api.OK || x != c {
		t.Errorf("parsed from %.200q: %+v, error %d, want %+v", want, x, err, c)
	}
	checkPrinted(t, "has", c)
	checkParsed(t, "has", want)
}

// checkHasNone holds that a command has no text.
func checkHasNone(t testing.TB, what string, c api.Command) {
	t.Helper()
	if s, err := Print(c); err != api.ErrArg || s != "" {
		t.Errorf("%s: text of %+v: %.200q, error %d", what, c, s, err)
	}
	checkPrinted(t, what, c)
}

// checkNone holds that a text is no command's.
func checkNone(t testing.TB, what string, s string) {
	t.Helper()
	if c, err := Parse(s); err != api.ErrForm || c != (api.Command{}) {
		t.Errorf("%s: parsed from %.200q: %+v, error %d", what, s, c, err)
	}
	checkParsed(t, what, s)
}
