package client_test

import (
	"bytes"
	"fmt"
	"math"
	"regexp"
	"strconv"
	"strings"
	"sync"
	"testing"

	"cubbyhole/api"
	"cubbyhole/client"
	"cubbyhole/command"
)

// The greatest numbers of bytes of a line and of a literal.
const (
	mostLine    = 8192
	mostLiteral = 65536
)

// The verbs by their kinds, and the names of what is numbered by its bits.
var (
	verbs = []string{"", "NOOP", "LOGOUT", "CLOSE", "EXPUNGE", "SELECT", "APPEND", "FETCH", "STORE"}
	items = []string{"FLAGS", "UID", "RFC822.SIZE", "BODY.PEEK[]", "BODY[]"}
	flags = []string{`\Answered`, `\Flagged`, `\Deleted`, `\Seen`, `\Draft`}
	modes = []string{"FLAGS", "+FLAGS", "-FLAGS"}
)

var (
	tagBytes  = regexp.MustCompile("^[!#$&',-\\[\\]-z|}~]+$")
	atomBytes = regexp.MustCompile("^[!#$&'+-\\[^-z|}~]+$")
	textBytes = regexp.MustCompile("^[\x01-\x09\x0b\x0c\x0e-\x7f]*$")
	escapes   = strings.NewReplacer(`\`, `\\`, `"`, `\"`)
	announces = regexp.MustCompile(`\{(0|[1-9][0-9]*)\}$`)
)

// bracketed returns the names of the bits of a sum in brackets.
func bracketed(names []string, sum int) string {
	var l []string
	for i, name := range names {
		if sum>>i&1 == 1 {
			l = append(l, name)
		}
	}
	return "(" + strings.Join(l, " ") + ")"
}

// setOf returns the form of a set.
func setOf(set []api.Range) string {
	var l []string
	for _, r := range set {
		s := fmt.Sprintf("%d:%d", r.Lo, r.Hi)
		if r.Lo == r.Hi {
			s = fmt.Sprint(r.Lo)
		}
		l = append(l, s)
	}
	// A zero is a star if it is no digit of a longer number.
	return regexp.MustCompile(`\b0\b`).ReplaceAllString(strings.Join(l, ","), "*")
}

// lines returns the lines of the text of a valid command, and the literals that follow all of them but the last one.
func lines(c api.Command) (l, literals []string) {
	line := c.Tag + " " + verbs[c.Kind]
	literal := func(s string) {
		l, literals = append(l, fmt.Sprintf("%s {%d}", line, len(s))), append(literals, s)
		line = ""
	}
	if c.Kind == 5 || c.Kind == 6 {
		switch {
		case atomBytes.MatchString(c.Mailbox):
			line += " " + c.Mailbox
		case textBytes.MatchString(c.Mailbox):
			line += ` "` + escapes.Replace(c.Mailbox) + `"`
		default:
			literal(c.Mailbox)
		}
	}
	switch c.Kind {
	case 6:
		if c.Flags > 0 {
			line += " " + bracketed(flags, int(c.Flags))
		}
		literal(string(c.Data))
	case 7:
		line += " " + setOf(c.Set) + " " + bracketed(items, c.Items)
	case 8:
		line += " " + setOf(c.Set) + " " + modes[c.Mode]
		if c.Silent {
			line += ".SILENT"
		}
		line += " " + bracketed(flags, int(c.Flags))
	}
	return append(l, line), literals
}

// written returns the text of a valid command, the number of its literals, and whether it can be sent.
func written(c api.Command) (string, int, bool) {
	l, literals := lines(c)
	all, ok := "", true
	for i, line := range l {
		all += line + "\r\n"
		ok = ok && len(line) <= mostLine
		if i < len(literals) {
			all += literals[i]
		}
	}
	return all, len(literals), ok
}

// fields returns all fields of a command, so that equal ones have the same.
func fields(c api.Command) string {
	return fmt.Sprintf("%q %d %q %v %d %d %v %d %q", c.Tag, c.Kind, c.Mailbox, append([]api.Range{}, c.Set...), c.Items, c.Mode, c.Silent, c.Flags, c.Data)
}

// all returns all fields of some commands.
func all(l []api.Command) string {
	s := ""
	for _, c := range l {
		s += fields(c) + "\n"
	}
	return s
}

// short returns as much of a command as a message shows.
func short(c api.Command) string { return fmt.Sprintf("%.200s", fields(c)) }

// expect compares what the functions return for a command with its text and the number of its literals.
func expect(t *testing.T, c api.Command, want string, literals int) {
	t.Helper()
	if b, ok := client.Print(c); string(b) != want || !ok {
		t.Errorf("Print(%s) = %.200q, %v, want %.200q", short(c), b, ok, want)
	}
	if b, ok := client.Stream(c); string(b) != want || !ok {
		t.Errorf("Stream(%s) = %.200q, %v, want %.200q", short(c), b, ok, want)
	}
	if n := client.Literals(c); n != literals {
		t.Errorf("Literals(%s) = %d, want %d", short(c), n, literals)
	}
	if l, ok := client.Read([]byte(want)); all(l) != all([]api.Command{c}) || !ok {
		t.Errorf("Read(%.200q) = %.200s, %v, want %s", want, all(l), ok, short(c))
	}
}

// refuse checks that a command cannot be sent.
func refuse(t *testing.T, c api.Command) {
	t.Helper()
	if b, ok := client.Print(c); len(b) > 0 || ok {
		t.Errorf("Print(%s) = %.200q, %v", short(c), b, ok)
	}
	if b, ok := client.Stream(c); len(b) > 0 || ok {
		t.Errorf("Stream(%s) = %.200q, %v", short(c), b, ok)
	}
	if n := client.Literals(c); n != 0 {
		t.Errorf("Literals(%s) = %d", short(c), n)
	}
}

// check compares what the functions return for a valid command with what they are to return, and returns whether it can be sent.
func check(t *testing.T, c api.Command) bool {
	t.Helper()
	want, literals, ok := written(c)
	if ok {
		expect(t, c, want, literals)
	} else {
		refuse(t, c)
	}
	return ok
}

// point returns the set of one number.
func point(n uint32) []api.Range { return []api.Range{{Lo: n, Hi: n}} }

// char returns the string of one byte.
func char(n int) string { return string([]byte{byte(n)}) }

// P8.1

func TestExample(t *testing.T) {
	expect(t, api.Command{Tag: "a", Kind: api.Fetch, Set: []api.Range{{Lo: 1}}, Items: 3}, "a FETCH 1:* (FLAGS UID)\r\n", 0)
}

func TestPrint(t *testing.T) {
	type com = api.Command
	for _, x := range []struct {
		c        com
		want     string
		literals int
	}{
		{com{Tag: "a", Kind: api.Noop}, "a NOOP", 0},
		{com{Tag: "a", Kind: api.Logout}, "a LOGOUT", 0},
		{com{Tag: "a", Kind: api.Close}, "a CLOSE", 0},
		{com{Tag: "a", Kind: api.Expunge}, "a EXPUNGE", 0},
		{com{Tag: "]!#$&',-.}", Kind: api.Noop}, "]!#$&',-.} NOOP", 0},
		{com{Tag: "noop", Kind: api.Noop}, "noop NOOP", 0},

		{com{Tag: "a", Kind: api.Select, Mailbox: "INBOX"}, "a SELECT INBOX", 0},
		{com{Tag: "a", Kind: api.Select, Mailbox: "inBox"}, "a SELECT inBox", 0},
		{com{Tag: "a", Kind: api.Select, Mailbox: "+[x}~"}, "a SELECT +[x}~", 0},
		{com{Tag: "a", Kind: api.Select}, `a SELECT ""`, 0},
		{com{Tag: "a", Kind: api.Select, Mailbox: "]"}, `a SELECT "]"`, 0},
		{com{Tag: "a", Kind: api.Select, Mailbox: "a b"}, `a SELECT "a b"`, 0},
		{com{Tag: "a", Kind: api.Select, Mailbox: "{3}"}, `a SELECT "{3}"`, 0},
		{com{Tag: "a", Kind: api.Select, Mailbox: "a\\\"(%*"}, `a SELECT "a\\\"(%*"`, 0},
		{com{Tag: "a", Kind: api.Select, Mailbox: "\x01\t\x7f"}, "a SELECT \"\x01\t\x7f\"", 0},
		{com{Tag: "a", Kind: api.Select, Mailbox: "\r\n"}, "a SELECT {2}\r\n\r\n", 1},
		{com{Tag: "a", Kind: api.Select, Mailbox: "é"}, "a SELECT {2}\r\né", 1},
		{com{Tag: "a", Kind: api.Select, Mailbox: "\x00"}, "a SELECT {1}\r\n\x00", 1},
		{com{Tag: "a", Kind: api.Select, Mailbox: "\xff\\\" {2}"}, "a SELECT {7}\r\n\xff\\\" {2}", 1},

		{com{Tag: "a", Kind: api.Append}, "a APPEND \"\" {0}\r\n", 1},
		{com{Tag: "a", Kind: api.Append, Mailbox: "x", Data: []byte("b")}, "a APPEND x {1}\r\nb", 1},
		{com{Tag: "a", Kind: api.Append, Mailbox: "x", Flags: api.Seen}, "a APPEND x (\\Seen) {0}\r\n", 1},
		{com{Tag: "a", Kind: api.Append, Mailbox: "a b", Data: []byte("0123456789")}, "a APPEND \"a b\" {10}\r\n0123456789", 1},
		{com{Tag: "a", Kind: api.Append, Mailbox: "\x80", Data: []byte("b")}, "a APPEND {1}\r\n\x80 {1}\r\nb", 2},
		{com{Tag: "a", Kind: api.Append, Mailbox: "\r", Flags: api.Draft | api.Answered, Data: []byte("\r\n")}, "a APPEND {1}\r\n\r (\\Answered \\Draft) {2}\r\n\r\n", 2},
		{com{Tag: "a", Kind: api.Append, Mailbox: "x", Data: []byte("a NOOP\r\nb {3}")}, "a APPEND x {13}\r\na NOOP\r\nb {3}", 1},
		{com{Tag: "a", Kind: api.Append, Mailbox: "x", Flags: api.AllFlags, Data: []byte("\x00\xff")}, "a APPEND x (\\Answered \\Flagged \\Deleted \\Seen \\Draft) {2}\r\n\x00\xff", 1},

		{com{Tag: "a", Kind: api.Fetch, Set: point(1), Items: api.ItemFlags}, "a FETCH 1 (FLAGS)", 0},
		{com{Tag: "a", Kind: api.Fetch, Set: point(1), Items: api.ItemUID}, "a FETCH 1 (UID)", 0},
		{com{Tag: "a", Kind: api.Fetch, Set: point(1), Items: api.ItemSize}, "a FETCH 1 (RFC822.SIZE)", 0},
		{com{Tag: "a", Kind: api.Fetch, Set: point(1), Items: api.ItemPeek}, "a FETCH 1 (BODY.PEEK[])", 0},
		{com{Tag: "a", Kind: api.Fetch, Set: point(1), Items: api.ItemBody}, "a FETCH 1 (BODY[])", 0},
		{com{Tag: "a", Kind: api.Fetch, Set: []api.Range{{}, {Lo: 3, Hi: 2}, {Hi: 7}}, Items: 31}, "a FETCH *,3:2,*:7 (FLAGS UID RFC822.SIZE BODY.PEEK[] BODY[])", 0},

		{com{Tag: "a", Kind: api.Store, Set: point(0)}, "a STORE * FLAGS ()", 0},
		{com{Tag: "a", Kind: api.Store, Set: point(1), Mode: api.Add}, "a STORE 1 +FLAGS ()", 0},
		{com{Tag: "a", Kind: api.Store, Set: point(1), Mode: api.Remove, Flags: api.Deleted}, "a STORE 1 -FLAGS (\\Deleted)", 0},
		{com{Tag: "a", Kind: api.Store, Set: point(1), Silent: true, Flags: api.Flagged}, "a STORE 1 FLAGS.SILENT (\\Flagged)", 0},
		{com{Tag: "a", Kind: api.Store, Set: point(1), Mode: api.Add, Silent: true, Flags: api.Seen | api.Answered}, "a STORE 1 +FLAGS.SILENT (\\Answered \\Seen)", 0},
		{com{Tag: "a", Kind: api.Store, Set: []api.Range{{Lo: 1, Hi: math.MaxUint32}, {Lo: 1}}, Mode: api.Remove, Silent: true, Flags: 31}, "a STORE 1:4294967295,1:* -FLAGS.SILENT (\\Answered \\Flagged \\Deleted \\Seen \\Draft)", 0},
	} {
		expect(t, x.c, x.want+"\r\n", x.literals)
		check(t, x.c)
	}
}

// Each byte is tried in a tag and in a mailbox.
func TestPrintOfEachByte(t *testing.T) {
	for n := range 256 {
		for _, s := range []string{char(n), char(n) + "a", "a" + char(n), "a" + char(n) + "a", char(n) + char(n)} {
			if c := (api.Command{Tag: s, Kind: 1}); tagBytes.MatchString(s) {
				check(t, c)
			} else {
				refuse(t, c)
			}
			check(t, api.Command{Tag: "t", Kind: 5, Mailbox: s})
			check(t, api.Command{Tag: "t", Kind: 6, Mailbox: s})
			check(t, api.Command{Tag: "t", Kind: 6, Mailbox: s, Flags: api.Flags(n % 32), Data: []byte(s)})
		}
	}
}

// Each pair of bytes that have a meaning somewhere is tried in a mailbox and in data.
func TestPrintOfPairs(t *testing.T) {
	for _, a := range []string{"a", " ", "(", ")", "\"", "\\", "{", "}", "{1}", "]", "*", "%", "\r", "\n", "\r\n", "\x00", "\x7f", "\x80", "\xff"} {
		for _, b := range []string{"", "a", " ", "\"", "\\", "{1}", "{65537}", "]", "\r", "\n", "\r\n", "\x00", "\xff"} {
			check(t, api.Command{Tag: "t", Kind: 5, Mailbox: a + b})
			check(t, api.Command{Tag: "t", Kind: 6, Mailbox: a + b, Data: []byte(b + a)})
			check(t, api.Command{Tag: "t", Kind: 6, Mailbox: b + a, Flags: 2, Data: []byte(a + b)})
		}
	}
}

func TestPrintOfEverySum(t *testing.T) {
	for sum := range 32 {
		if sum > 0 {
			check(t, api.Command{Tag: "a", Kind: 7, Set: point(1), Items: sum})
		}
		for _, mailbox := range []string{"", "x", "a b", "\xff"} {
			check(t, api.Command{Tag: "a", Kind: 6, Mailbox: mailbox, Flags: api.Flags(sum), Data: []byte("x")})
		}
		for mode := range 3 {
			check(t, api.Command{Tag: "a", Kind: 8, Set: point(1), Mode: mode, Flags: api.Flags(sum)})
			check(t, api.Command{Tag: "a", Kind: 8, Set: point(1), Mode: mode, Silent: true, Flags: api.Flags(sum)})
		}
	}
}

func TestPrintOfSets(t *testing.T) {
	numbers := []uint32{0, 1, 2, 9, 10, 100, 4294967294, 4294967295}
	for _, lo := range numbers {
		for _, hi := range numbers {
			for _, set := range [][]api.Range{{{Lo: lo, Hi: hi}}, {{Lo: lo, Hi: lo}, {Lo: hi, Hi: hi}}, {{Lo: hi, Hi: lo}, {Lo: lo, Hi: hi}}, {{Lo: lo}, {Hi: hi}, {Lo: 5, Hi: 5}}} {
				check(t, api.Command{Tag: "a", Kind: 7, Set: set, Items: 2})
				check(t, api.Command{Tag: "a", Kind: 8, Set: set, Mode: 1, Flags: 4})
			}
		}
	}
}

func TestPrintOfInvalidCommands(t *testing.T) {
	type com = api.Command
	set := point(1)
	for _, c := range []com{
		{}, {Tag: "a"}, {Kind: 1}, {Kind: 5, Mailbox: "x"}, {Kind: 6, Mailbox: "x", Data: []byte("x")}, {Kind: 7, Set: set, Items: 1}, {Kind: 8, Set: set},
		{Tag: "a b", Kind: 1}, {Tag: "a ", Kind: 1}, {Tag: " ", Kind: 1}, {Tag: "+", Kind: 5}, {Tag: "a\r\nb", Kind: 1}, {Tag: "é", Kind: 7, Set: set, Items: 1}, {Tag: "a{1}", Kind: 8, Set: set},
		{Tag: "a", Kind: 9}, {Tag: "a", Kind: -1}, {Tag: "a", Kind: 10}, {Tag: "a", Kind: math.MinInt}, {Tag: "a", Kind: math.MaxInt}, {Tag: "a", Kind: 1<<32 + 1},
		{Tag: "a", Kind: 1, Mailbox: "x"}, {Tag: "a", Kind: 2, Set: set}, {Tag: "a", Kind: 3, Items: 1}, {Tag: "a", Kind: 4, Mode: 1}, {Tag: "a", Kind: 1, Silent: true}, {Tag: "a", Kind: 2, Flags: 1}, {Tag: "a", Kind: 3, Data: []byte("x")},
		{Tag: "a", Kind: 5, Set: set}, {Tag: "a", Kind: 5, Items: 1}, {Tag: "a", Kind: 5, Mode: 1}, {Tag: "a", Kind: 5, Silent: true}, {Tag: "a", Kind: 5, Flags: 1}, {Tag: "a", Kind: 5, Data: []byte("x")},
		{Tag: "a", Kind: 6, Set: set}, {Tag: "a", Kind: 6, Items: 1}, {Tag: "a", Kind: 6, Mode: 1}, {Tag: "a", Kind: 6, Silent: true}, {Tag: "a", Kind: 6, Flags: 32}, {Tag: "a", Kind: 6, Flags: 255}, {Tag: "a", Kind: 6, Flags: 33, Data: []byte("x")},
		{Tag: "a", Kind: 7}, {Tag: "a", Kind: 7, Items: 1}, {Tag: "a", Kind: 7, Set: set}, {Tag: "a", Kind: 7, Set: []api.Range{}, Items: 1},
		{Tag: "a", Kind: 7, Set: set, Items: 32}, {Tag: "a", Kind: 7, Set: set, Items: 33}, {Tag: "a", Kind: 7, Set: set, Items: -1}, {Tag: "a", Kind: 7, Set: set, Items: math.MinInt}, {Tag: "a", Kind: 7, Set: set, Items: math.MaxInt}, {Tag: "a", Kind: 7, Set: set, Items: 1<<32 + 1},
		{Tag: "a", Kind: 7, Set: set, Items: 1, Mailbox: "x"}, {Tag: "a", Kind: 7, Set: set, Items: 1, Mode: 1}, {Tag: "a", Kind: 7, Set: set, Items: 1, Silent: true}, {Tag: "a", Kind: 7, Set: set, Items: 1, Flags: 1}, {Tag: "a", Kind: 7, Set: set, Items: 1, Data: []byte("x")},
		{Tag: "a", Kind: 8}, {Tag: "a", Kind: 8, Set: []api.Range{}}, {Tag: "a", Kind: 8, Set: set, Mode: 3}, {Tag: "a", Kind: 8, Set: set, Mode: -1}, {Tag: "a", Kind: 8, Set: set, Mode: math.MinInt}, {Tag: "a", Kind: 8, Set: set, Mode: math.MaxInt},
		{Tag: "a", Kind: 8, Set: set, Flags: 32}, {Tag: "a", Kind: 8, Set: set, Flags: 160}, {Tag: "a", Kind: 8, Set: set, Items: 1}, {Tag: "a", Kind: 8, Set: set, Mailbox: "x"}, {Tag: "a", Kind: 8, Set: set, Data: []byte("x")},
	} {
		refuse(t, c)
	}
}

// A line may have 8192 bytes, whatever makes it long.
func TestPrintOfLongLines(t *testing.T) {
	type com = api.Command
	for name, f := range map[string]func(n int) com{
		"a tag":                  func(n int) com { return com{Tag: strings.Repeat("a", n), Kind: 4} },
		"a tag of a FETCH":       func(n int) com { return com{Tag: strings.Repeat("a", n), Kind: 7, Set: point(1), Items: 31} },
		"a tag before a literal": func(n int) com { return com{Tag: strings.Repeat("a", n), Kind: 5, Mailbox: "\xff"} },
		"a word":                 func(n int) com { return com{Tag: "a", Kind: 5, Mailbox: strings.Repeat("x", n)} },
		"a quoted form":          func(n int) com { return com{Tag: "a", Kind: 5, Mailbox: strings.Repeat(" ", n)} },
		"a quoted form with escapes": func(n int) com {
			return com{Tag: "a" + char('a' + n%2)[:n%2], Kind: 5, Mailbox: strings.Repeat(`"`, n/2)}
		},
		"a word before a literal": func(n int) com { return com{Tag: "a", Kind: 6, Mailbox: strings.Repeat("x", n), Data: []byte("b")} },
		"a quoted form before a literal": func(n int) com {
			return com{Tag: "a", Kind: 6, Mailbox: strings.Repeat("]", n), Flags: 31, Data: []byte("b\r\n")}
		},
		"a set": func(n int) com {
			set := make([]api.Range, n/2)
			set[0].Hi = uint32(1 + 9*(n%2)) // *:1 or *:10
			return com{Tag: "a", Kind: 7, Set: set, Items: 1}
		},
		"a set of a STORE": func(n int) com {
			set := make([]api.Range, n/2)
			set[0].Hi = uint32(1 + 9*(n%2))
			return com{Tag: "a", Kind: 8, Set: set, Mode: 2, Silent: true, Flags: 31}
		},
	} {
		longest := 0
		// What else is in the line has at most 100 bytes.
		for n := mostLine - 100; n < mostLine+10; n++ {
			c := f(n)
			l, _ := lines(c)
			if check(t, c) {
				longest = max(longest, len(l[0]))
			}
		}
		if longest != mostLine {
			t.Errorf("%s: the longest line has %d bytes", name, longest)
		}
		for _, n := range []int{mostLine * 2, mostLiteral - 1, mostLiteral, mostLiteral + 1} {
			refuse(t, f(n))
		}
	}
}

// What follows a line that is too long may have frames that are there, and end with a command.
func TestPrintOfLinesAfterALongOne(t *testing.T) {
	for _, mailbox := range []string{strings.Repeat("x", mostLine), strings.Repeat(" ", mostLine), strings.Repeat("\\", mostLine/2)} {
		for _, data := range []string{"", "b", "\r\n", "a NOOP", "a NOOP\r\n", "a NOOP\r\nb NOOP", "b APPEND x {1}\r\nc", "a {1}", "{2}", "{0}", "{70000}", "a\r\n{3}", "\r\n{1}\r\nb", strings.Repeat("y", mostLine), strings.Repeat("y", mostLine+1), strings.Repeat("\r\n", 1000), "a APPEND " + mailbox + " {0}\r\n"} {
			refuse(t, api.Command{Tag: "a", Kind: 6, Mailbox: mailbox, Data: []byte(data)})
			refuse(t, api.Command{Tag: "a", Kind: 6, Mailbox: mailbox, Flags: 8, Data: []byte(data)})
		}
	}
	refuse(t, api.Command{Tag: strings.Repeat("a", mostLine), Kind: 5, Mailbox: "\xff"})
	refuse(t, api.Command{Tag: strings.Repeat("a", mostLine), Kind: 6, Mailbox: "\xff", Data: []byte("a NOOP")})
}

// The lines in a literal may be too long, or announce other literals.
func TestPrintOfLongLiterals(t *testing.T) {
	for _, n := range []int{mostLine - 1, mostLine, mostLine + 1, mostLine * 2, mostLiteral - 2, mostLiteral - 1, mostLiteral, mostLiteral + 1, mostLiteral + 2, mostLiteral * 2} {
		for _, part := range []string{"\xff", "\r\n", "x\x00", "{65537}\r\n", "a NOOP\r\n"} {
			s := strings.Repeat(part, n/len(part)+1)[:n]
			for _, c := range []api.Command{
				{Tag: "a", Kind: 5, Mailbox: s},
				{Tag: "a", Kind: 6, Mailbox: s},
				{Tag: "a", Kind: 6, Mailbox: "x", Data: []byte(s)},
				{Tag: "a", Kind: 6, Mailbox: "x y", Flags: 31, Data: []byte(s)},
				{Tag: "a", Kind: 6, Mailbox: s, Flags: 3, Data: []byte(s)},
			} {
				if n > mostLiteral {
					refuse(t, c)
				} else if !check(t, c) {
					t.Errorf("%s is not tried", short(c))
				}
			}
		}
	}
}

// P8.2

// some returns commands of all kinds, with and without literals.
func some() []api.Command {
	return []api.Command{
		{Tag: "a", Kind: 1},
		{Tag: "b1", Kind: 5, Mailbox: "x"},
		{Tag: "c", Kind: 6, Mailbox: "\r\n", Flags: 9, Data: []byte("d NOOP\r\n")},
		{Tag: "]", Kind: 7, Set: []api.Range{{Lo: 2}, {Lo: 4, Hi: 4}}, Items: 31},
		{Tag: "e", Kind: 8, Set: point(3), Mode: 2, Silent: true, Flags: 4},
		{Tag: "f", Kind: 6, Mailbox: "a b", Data: []byte("{3}")},
		{Tag: "f", Kind: 5, Mailbox: "é"},
		{Tag: "g", Kind: 4},
		{Tag: "h", Kind: 3},
		{Tag: "i", Kind: 2},
	}
}

func TestStream(t *testing.T) {
	for from := range some() {
		for to := from; to <= len(some()); to++ {
			l := some()[from:to]
			want := ""
			for _, c := range l {
				one, _, _ := written(c)
				want += one
			}
			if b, ok := client.Stream(l...); string(b) != want || !ok {
				t.Errorf("Stream(%s) = %q, %v, want %q", all(l), b, ok, want)
			}
		}
	}
	if b, ok := client.Stream(); len(b) > 0 || !ok {
		t.Errorf("Stream() = %q, %v", b, ok)
	}
}

// The same commands in other orders have the same texts in these.
func TestStreamKeepsTheOrder(t *testing.T) {
	l := some()
	for i, a := range l {
		for j, b := range l {
			first, _, _ := written(a)
			second, _, _ := written(b)
			if s, ok := client.Stream(a, b, a); string(s) != first+second+first || !ok {
				t.Errorf("%d %d: %q, %v", i, j, s, ok)
			}
		}
	}
}

func TestStreamOfCommandsThatCannotBeSent(t *testing.T) {
	for _, c := range []api.Command{
		{}, {Tag: "a"}, {Tag: "a+", Kind: 1}, {Tag: "a", Kind: 9}, {Tag: "a", Kind: 7, Set: point(1)}, {Tag: "a", Kind: 8, Mode: 1},
		{Tag: strings.Repeat("a", mostLine), Kind: 1}, {Tag: "a", Kind: 5, Mailbox: strings.Repeat("x", mostLine)}, {Tag: "a", Kind: 6, Mailbox: strings.Repeat("x", mostLine), Data: []byte("b NOOP")}, {Tag: "a", Kind: 6, Data: make([]byte, mostLiteral+1)},
	} {
		for at := range len(some()) + 1 {
			l := append(append(some()[:at:at], c), some()[at:]...)
			if b, ok := client.Stream(l...); len(b) > 0 || ok {
				t.Errorf("Stream with %s at %d = %.200q, %v", short(c), at, b, ok)
			}
		}
	}
}

// P8.3

// parts returns the bytes of the commands of a stream, and true if nothing else is in it.
func parts(s string) ([]string, bool) {
	var l []string
	for s != "" {
		at := 0
		for {
			n := strings.Index(s[at:], "\r\n")
			if n < 0 || n > mostLine {
				return nil, false
			}
			m := announces.FindStringSubmatch(s[at : at+n])
			at += n
			if m == nil {
				break
			}
			size, err := strconv.Atoi(m[1])
			if at += 2 + size; err != nil || size > mostLiteral || at > len(s) {
				return nil, false
			}
		}
		l, s = append(l, s[:at]), s[at+2:]
	}
	return l, true
}

// checkRead compares what Read returns for a stream with what it is to return.
func checkRead(t *testing.T, s string) {
	t.Helper()
	var want []api.Command
	bytesOf, wantOK := parts(s)
	for _, b := range bytesOf {
		c, ok := command.Parse([]byte(b))
		want, wantOK = append(want, c), wantOK && ok
	}
	if !wantOK {
		want = nil
	}
	if l, ok := client.Read([]byte(s)); all(l) != all(want) || ok != wantOK {
		t.Errorf("Read(%.200q) = %.200s, %v, want %.200s, %v", s, all(l), ok, all(want), wantOK)
	}
}

func TestRead(t *testing.T) {
	type com = api.Command
	for s, want := range map[string][]com{
		"":                             nil,
		"a NOOP\r\n":                   {{Tag: "a", Kind: 1}},
		"a noop\r\nb1 Logout\r\n":      {{Tag: "a", Kind: 1}, {Tag: "b1", Kind: 2}},
		"a NOOP\r\na NOOP\r\n":         {{Tag: "a", Kind: 1}, {Tag: "a", Kind: 1}},
		"b CLOSE\r\na EXPUNGE\r\n":     {{Tag: "b", Kind: 3}, {Tag: "a", Kind: 4}},
		"a SELECT \"b\"\r\n":           {{Tag: "a", Kind: 5, Mailbox: "b"}},
		"a SELECT {1}\r\nb\r\n":        {{Tag: "a", Kind: 5, Mailbox: "b"}},
		"a SELECT {0}\r\n\r\n":         {{Tag: "a", Kind: 5}},
		"a SELECT {2}\r\n\r\n\r\n":     {{Tag: "a", Kind: 5, Mailbox: "\r\n"}},
		"a APPEND x () {0}\r\n\r\n":    {{Tag: "a", Kind: 6, Mailbox: "x"}},
		"a fetch 1:1,*:* uid\r\n":      {{Tag: "a", Kind: 7, Set: []api.Range{{Lo: 1, Hi: 1}, {}}, Items: 2}},
		"a store 1 flags \\seen\r\n":   {{Tag: "a", Kind: 8, Set: point(1), Flags: 8}},
		"a FETCH 2 (BODY[] FLAGS)\r\n": {{Tag: "a", Kind: 7, Set: point(2), Items: 17}},
		"a APPEND {1}\r\nx {8}\r\nb NOOP\r\n\r\nc NOOP\r\n":       {{Tag: "a", Kind: 6, Mailbox: "x", Data: []byte("b NOOP\r\n")}, {Tag: "c", Kind: 1}},
		"a NOOP\r\nb APPEND x (\\Draft) {3}\r\n{1}\r\nc NOOP\r\n": {{Tag: "a", Kind: 1}, {Tag: "b", Kind: 6, Mailbox: "x", Flags: 16, Data: []byte("{1}")}, {Tag: "c", Kind: 1}},
	} {
		if l, ok := client.Read([]byte(s)); all(l) != all(want) || !ok {
			t.Errorf("Read(%q) = %s, %v, want %s", s, all(l), ok, all(want))
		}
		checkRead(t, s)
	}
	if l, ok := client.Read(nil); len(l) > 0 || !ok {
		t.Errorf("Read(nil) = %s, %v", all(l), ok)
	}
}

// Good commands stand before and after what is not.
func TestReadOfOtherStreams(t *testing.T) {
	long := strings.Repeat("x", mostLine)
	for _, bad := range []string{
		"\r\n", " \r\n", "a\r\n", "NOOP\r\n", "a \r\n", " NOOP\r\n", "a NOP\r\n", "a NOOP \r\n", "a NOOP\n\r\n", "+ NOOP\r\n", "a FETCH 1\r\n", "a FETCH 1 ()\r\n", "a FETCH 0 UID\r\n", "a SELECT\r\n", "a STORE 1 FLAGS x\r\n", "a APPEND x y\r\n",
		"a SELECT {1}\r\n\r\n\r\n\r\n", "a SELECT {2}\r\nx\r\n\r\n", "a {1}\r\nb\r\n", "{1}\r\nb\r\n", "a NOOP{0}\r\n\r\n", "a SELECT {01}\r\n", "a SELECT {4294967296}\r\n", "a APPEND {1}\r\nx\r\n",
		"a {65537}\r\n", "a SELECT {65537}\r\n", "a APPEND x {65537}\r\n", "a SELECT {4294967295}\r\n", "a APPEND {1}\r\nx {65537}\r\n", "a NOOP {70000}\r\n", "{65537}\r\n",
		long + "x\r\n", "a SELECT " + long + "\r\n", "a NOOP" + strings.Repeat(" ", mostLine) + "\r\n", "a SELECT {1}\r\nb" + long + "x\r\n", "a APPEND x {1}\r\nb" + long + "x{1}\r\n",
		"a SELECT {1}\r\n\"a NOOP" + strings.Repeat(" ", mostLine) + "\r\n",
	} {
		for _, before := range []string{"", "a NOOP\r\n", "a APPEND {1}\r\nx {1}\r\ny\r\nb NOOP\r\n"} {
			for _, after := range []string{"", "a NOOP\r\n", "a SELECT {1}\r\nx\r\n", "a NOOP\r\nb NOOP\r\n"} {
				s := before + bad + after
				if l, ok := client.Read([]byte(s)); len(l) > 0 || ok {
					t.Errorf("Read(%.200q) = %s, %v", s, all(l), ok)
				}
				checkRead(t, s)
			}
		}
	}
}

// The bytes of Long and Big may be those of a command.
func TestReadOfCommandsInOtherFrames(t *testing.T) {
	for _, s := range []string{
		"a SELECT " + strings.Repeat("x", mostLine-9) + "y\r\n",
		"a SELECT {1}\r\nba SELECT " + strings.Repeat("x", mostLine-9) + "y\r\n",
		"a SELECT {65537}\r\n",
		"a SELECT x{65537}\r\n",
	} {
		if l, ok := client.Read([]byte(s)); len(l) > 0 || ok {
			t.Errorf("Read(%.200q) = %.200s, %v", s, all(l), ok)
		}
	}
	exact := "a SELECT " + strings.Repeat("x", mostLine-9)
	if l, ok := client.Read([]byte(exact + "\r\n")); !ok || len(l) != 1 || l[0].Mailbox != exact[9:] {
		t.Errorf("a line of %d bytes: %.200s, %v", len(exact), all(l), ok)
	}
}

// A part of a stream has its commands alone if it ends with one of them.
func TestReadOfPartsOfAStream(t *testing.T) {
	b, _ := client.Stream(some()...)
	ends := map[int]int{0: 0}
	at := 0
	for i, c := range some() {
		one, _, _ := written(c)
		at += len(one)
		ends[at] = i + 1
	}
	for n := range len(b) + 1 {
		l, ok := client.Read(b[:n])
		count, ended := ends[n]
		if ok != ended || all(l) != all(some()[:count]) {
			t.Errorf("Read of %d bytes: %s, %v", n, all(l), ok)
		}
		checkRead(t, string(b[n:]))
	}
}

func TestReadOfWaitingBytes(t *testing.T) {
	for _, s := range []string{"a", "\r", "\n", "a NOOP", "a NOOP\r", "a NOOP\n", "a SELECT {0}\r\n", "a SELECT {1}\r\n", "a SELECT {1}\r\nx", "a SELECT {1}\r\nx\r", "a APPEND x {1}\r\na NOOP", "a SELECT {65536}\r\nb NOOP\r\n", "a APPEND {1}\r\nx {1}\r\n\r\n", strings.Repeat("x", mostLine+9), "a SELECT {4}\r\n\r\n\r\n"} {
		for _, before := range []string{"", "a NOOP\r\n", "a SELECT {1}\r\nx\r\nb LOGOUT\r\n"} {
			if l, ok := client.Read([]byte(before + s)); len(l) > 0 || ok {
				t.Errorf("Read(%.200q) = %s, %v", before+s, all(l), ok)
			}
			checkRead(t, before+s)
		}
	}
}

// Streams that are changed at one place are read as their frames say.
func TestReadOfChangedStreams(t *testing.T) {
	b, _ := client.Stream(some()...)
	s := string(b)
	for i := range len(s) {
		checkRead(t, s[:i]+s[i+1:])
		checkRead(t, s[:i]+s[i:i+1]+s[i:])
		for _, part := range []string{" ", "\r\n", "\r", "\n", "{0}\r\n", "{1}\r\n", "{65537}\r\n", "{", "\"", "1", "x", "\x00", "\xff", "a NOOP\r\n", "\r\na NOOP\r\n"} {
			checkRead(t, s[:i]+part+s[i:])
			checkRead(t, s[:i]+part+s[i+1:])
		}
	}
}

// P8.4

func TestRetag(t *testing.T) {
	for _, prefix := range []string{"", "t", "tag", "1", "+ ", "\r\n\xff", "{1}", strings.Repeat("p", mostLine)} {
		l := append(some(), api.Command{}, api.Command{Tag: "x y", Kind: -7, Mailbox: "m", Set: []api.Range{{Lo: 1, Hi: 2}, {}}, Items: 99, Mode: -3, Silent: true, Flags: 255, Data: []byte("d\x00")})
		got := client.Retag(prefix, l...)
		if len(got) != len(l) {
			t.Fatalf("%d commands, want %d", len(got), len(l))
		}
		for i, c := range l {
			c.Tag = prefix + strconv.Itoa(i+1)
			if fields(got[i]) != fields(c) {
				t.Errorf("%d: %s, want %s", i, short(got[i]), short(c))
			}
		}
	}
	if l := client.Retag("t"); len(l) > 0 {
		t.Errorf("Retag of no commands: %s", all(l))
	}
	long := client.Retag("n", make([]api.Command, 100001)...)
	for _, n := range []int{1, 9, 10, 11, 99, 100, 1000, 65536, 65537, 100000, 100001} {
		if got := long[n-1].Tag; got != "n"+strconv.Itoa(n) {
			t.Errorf("the tag of command %d is %q", n, got)
		}
	}
}

func TestRetagCopies(t *testing.T) {
	set, data := []api.Range{{Lo: 1, Hi: 2}, {Lo: 3}}, []byte("data")
	l := []api.Command{{Tag: "a", Kind: 7, Set: set}, {Tag: "b", Kind: 6, Data: data}, {Tag: "c", Kind: 8, Set: set[:1], Data: data[:2]}, {Tag: "d", Set: set[:0], Data: data[:0]}}
	before := all(l)
	first, second := client.Retag("t", l...), client.Retag("t", l...)
	want := all(second)
	for i := range first {
		clear(first[i].Set[:cap(first[i].Set)])
		clear(first[i].Data[:cap(first[i].Data)])
	}
	if all(l) != before {
		t.Errorf("a change of the result changes the argument: %s", all(l))
	}
	if all(second) != want {
		t.Errorf("results share memory: %s", all(second))
	}
	clear(set)
	clear(data)
	clear(l)
	if all(second) != want {
		t.Errorf("a change of the argument changes the result: %s", all(second))
	}
	// The commands of one result do not share memory, even if those of the argument do.
	c := api.Command{Set: point(1), Data: []byte("x")}
	twice := client.Retag("t", c, c)
	twice[0].Set[0].Lo, twice[0].Data[0] = 9, 'y'
	if twice[1].Set[0].Lo != 1 || twice[1].Data[0] != 'x' {
		t.Errorf("the commands of a result share memory: %s", all(twice))
	}
}

func TestLiterals(t *testing.T) {
	type com = api.Command
	mailboxes := map[string]int{"": 0, "x": 0, "a b": 0, "]": 0, "{1}": 0, "\"\\": 0, "\r\n": 1, "\r": 1, "\n": 1, "\x00": 1, "é": 1, "\xff{1}\r\n{1}\r\n": 1, strings.Repeat("\x80", mostLiteral): 1}
	for mailbox, n := range mailboxes {
		if got := client.Literals(com{Tag: "a", Kind: 5, Mailbox: mailbox}); got != n {
			t.Errorf("SELECT of %.20q: %d", mailbox, got)
		}
		for _, data := range []string{"", "x", "\r\n", "{1}", "{1}\r\n{1}\r\nx", strings.Repeat("{0}\r\n", 1000)} {
			for _, f := range []api.Flags{0, 31} {
				if got := client.Literals(com{Tag: "a", Kind: 6, Mailbox: mailbox, Flags: f, Data: []byte(data)}); got != n+1 {
					t.Errorf("APPEND to %.20q of %.20q: %d", mailbox, data, got)
				}
			}
		}
	}
	for _, c := range []com{{Tag: "a", Kind: 1}, {Tag: "a", Kind: 2}, {Tag: "a", Kind: 3}, {Tag: "a", Kind: 4}, {Tag: "a", Kind: 7, Set: point(1), Items: 31}, {Tag: "a", Kind: 8, Set: point(1), Flags: 31}} {
		if got := client.Literals(c); got != 0 {
			t.Errorf("%s: %d", short(c), got)
		}
	}
	// Their texts would have frames Ready.
	for _, c := range []com{
		{Kind: 5, Mailbox: "\xff"}, {Tag: "a+", Kind: 6, Data: []byte("x")}, {Tag: "a", Kind: 6, Items: 1}, {Tag: "a", Kind: 6, Flags: 32}, {Tag: "a", Kind: 6, Mailbox: "\xff", Data: make([]byte, mostLiteral+1)},
		{Tag: "a", Kind: 6, Mailbox: strings.Repeat("x", mostLine), Data: []byte("x {1}\r\ny")}, {Tag: strings.Repeat("a", mostLine), Kind: 6, Mailbox: "\xff", Data: []byte("x")},
	} {
		if got := client.Literals(c); got != 0 {
			t.Errorf("%s: %d", short(c), got)
		}
	}
}

// P8.5

func TestReadInvertsStream(t *testing.T) {
	var l []api.Command
	for _, tag := range []string{"a", "A1", "]", "'}"} {
		for kind := 1; kind <= 4; kind++ {
			l = append(l, api.Command{Tag: tag, Kind: kind})
		}
		for _, mailbox := range []string{"", "x", "]", "a b", "\\\"", "é", "\r\n", "{2}", "\xff{2}", "\x00"} {
			l = append(l, api.Command{Tag: tag, Kind: 5, Mailbox: mailbox})
			for _, data := range []string{"", "a", "\r\n", "b NOOP\r\n", "{1}", "\"", "\x00\xff"} {
				for _, f := range []api.Flags{0, 1, 16, 31} {
					l = append(l, api.Command{Tag: tag, Kind: 6, Mailbox: mailbox, Flags: f, Data: []byte(data)})
				}
			}
		}
		for _, set := range [][]api.Range{{{}}, {{Lo: 1, Hi: 1}}, {{Lo: 5}}, {{Hi: 5}}, {{Lo: 9, Hi: 2}, {Lo: 2, Hi: 9}, {}}, {{Lo: math.MaxUint32, Hi: 1}}} {
			for items := 1; items <= 31; items++ {
				l = append(l, api.Command{Tag: tag, Kind: 7, Set: set, Items: items})
			}
			for mode := range 3 {
				for f := range api.Flags(32) {
					l = append(l, api.Command{Tag: tag, Kind: 8, Set: set, Mode: mode, Silent: f%3 == 0, Flags: f})
				}
			}
		}
	}
	b, ok := client.Stream(l...)
	if !ok {
		t.Fatal("one of the commands cannot be sent")
	}
	read, ok := client.Read(b)
	if all(read) != all(l) || !ok {
		t.Errorf("Read returns %d commands, %v, that are not the %d ones of the stream", len(read), ok, len(l))
	}
	tagged := client.Retag("t", l...)
	b, ok = client.Stream(tagged...)
	again, okAgain := client.Read(b)
	if all(again) != all(tagged) || !ok || !okAgain {
		t.Errorf("with other tags, Read returns %d commands, %v, that are not the %d ones of the stream", len(again), okAgain, len(l))
	}
	// A command and what is read of its text have the same text.
	texts, _ := client.Stream(again...)
	if !bytes.Equal(texts, b) {
		t.Error("the stream of the commands that are read is another one")
	}
}

// P1 and P2

func TestElementsBeyondTheLengthAreNotRead(t *testing.T) {
	set, data, stream := []api.Range{{Lo: 1}, {Lo: 2}}, []byte("ab"), []byte("a NOOP\r\nb NOOP\r\n")
	expect(t, api.Command{Tag: "a", Kind: 7, Set: set[:1], Items: 2}, "a FETCH 1:* (UID)\r\n", 0)
	expect(t, api.Command{Tag: "a", Kind: 6, Data: data[:1]}, "a APPEND \"\" {1}\r\na\r\n", 1)
	expect(t, api.Command{Tag: "a", Kind: 1, Set: set[:0], Data: data[:0]}, "a NOOP\r\n", 0)
	if l, ok := client.Read(stream[:8]); len(l) != 1 || !ok {
		t.Errorf("Read returns %s, %v", all(l), ok)
	}
	if l, ok := client.Read(stream[:7]); len(l) != 0 || ok {
		t.Errorf("Read returns %s, %v", all(l), ok)
	}
	if set[1].Lo != 2 || string(data) != "ab" || string(stream) != "a NOOP\r\nb NOOP\r\n" {
		t.Error("elements beyond the length are modified")
	}
}

func TestMemory(t *testing.T) {
	l := some()
	before := all(l)
	first, _ := client.Stream(l...)
	second, _ := client.Stream(l...)
	one, _ := client.Print(l[2])
	other, _ := client.Print(l[2])
	single, _ := client.Stream(l[2])
	want, wantOne := string(second), string(other)
	clear(first[:cap(first)])
	clear(one[:cap(one)])
	client.Literals(l[2])
	if string(second) != want || string(other) != wantOne || string(single) != wantOne {
		t.Errorf("results share memory: %q, %q, %q", second, other, single)
	}
	if all(l) != before {
		t.Errorf("the arguments are modified: %s", all(l))
	}
	for i := range l {
		clear(l[i].Set)
		clear(l[i].Data)
	}
	if string(second) != want || string(other) != wantOne {
		t.Errorf("a change of the arguments changes a result: %q, %q", second, other)
	}
	read, _ := client.Read(second)
	again, _ := client.Read(second)
	if string(second) != want {
		t.Errorf("Read has modified its argument: %q", second)
	}
	clear(second)
	for i := range read {
		clear(read[i].Set[:cap(read[i].Set)])
		clear(read[i].Data[:cap(read[i].Data)])
	}
	if all(again) != all(some()) {
		t.Errorf("the result of Read shares memory: %s", all(again))
	}
}

func TestConcurrentCalls(t *testing.T) {
	var group sync.WaitGroup
	for range 8 {
		group.Go(func() {
			for range 20 {
				for _, c := range some() {
					check(t, c)
				}
				b, _ := client.Stream(some()...)
				checkRead(t, string(b))
				if l := client.Retag("t", some()...); l[9].Tag != "t10" {
					t.Error("a concurrent call has another result")
				}
			}
		})
	}
	group.Wait()
}
