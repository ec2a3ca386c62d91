package command_test

import (
	"fmt"
	"math"
	"regexp"
	"strconv"
	"strings"
	"sync"
	"testing"

	"cubbyhole/api"
	"cubbyhole/command"
)

// most is the greatest number of bytes of a mailbox and of a message.
const most = 65536

// The verbs by their kinds.
var verbs = []string{"", "NOOP", "LOGOUT", "CLOSE", "EXPUNGE", "SELECT", "APPEND", "FETCH", "STORE"}

// The numbers that names stand for, and how they are written in small letters.
var (
	items = map[string]int{"flags": 1, "uid": 2, "rfc822.size": 4, "body.peek[]": 8, "body[]": 16}
	modes = map[string]int{"flags": 0, "+flags": 1, "-flags": 2}
	flags = map[string]api.Flags{`\answered`: 1, `\flagged`: 2, `\deleted`: 4, `\seen`: 8, `\draft`: 16}
)

// The parts of commands, as the chapters' sentences give them.
var (
	atom    = "[!#$&'+-\\[\\]-z|}~]+"
	quoted  = `"(?:[\x01-\x09\x0b\x0c\x0e-!#-\[\]-\x7f]|\\["\\])*"`
	literal = literals(12)
	mailbox = "(" + atom + "|" + quoted + "|" + literal + ")"
	number  = `(?:[1-9][0-9]*|\*)`
	span    = number + "(?::" + number + ")?"
	set     = "(" + span + "(?:," + span + ")*)"
	item    = words(`flags`, `uid`, `rfc822\.size`, `body\.peek\[\]`, `body\[\]`)
	one     = words(`\\answered`, `\\flagged`, `\\deleted`, `\\seen`, `\\draft`)
	list    = `\((?:` + one + "(?: " + one + `)*)?\)`
)

// The forms of commands.
var (
	tagged  = regexp.MustCompile(`^([!#$&',-\[\]-z|}~]+) `)
	bare    = form("noop|logout|close|expunge")
	selects = form("select", mailbox)
	appends = form("append", mailbox+"(?: ("+list+"))?", "("+literal+")")
	fetches = form("fetch", set, "("+item+`|\(`+item+"(?: "+item+`)*\))`)
	stores  = form("store", set, `([+-]?(?i:flags))((?i:\.silent)?)`, "("+list+"|"+one+"(?: "+one+")*)")
	escaped = regexp.MustCompile(`(?s)\\(.)`)
)

// words returns the expression of some names in letters of any case.
func words(l ...string) string { return "(?i:" + strings.Join(l, "|") + ")" }

// literals returns the expression of the literals of up to n bytes.
func literals(n int) string {
	l := make([]string, n+1)
	for i := range l {
		l[i] = fmt.Sprintf(`\{%d\}\r\n(?s:.{%d})`, i, i)
	}
	return "(?:" + strings.Join(l, "|") + ")"
}

// form returns the expression of what follows the tag of a command.
func form(parts ...string) *regexp.Regexp {
	parts[0] = "((?i:" + parts[0] + "))"
	return regexp.MustCompile("^" + strings.Join(parts, " ") + "$")
}

// runes returns the string with a rune for each byte, so that an expression takes bytes one by one.
func runes(s string) string {
	var b strings.Builder
	for i := range len(s) {
		b.WriteRune(rune(s[i]))
	}
	return b.String()
}

// narrow undoes runes.
func narrow(s string) string {
	var b []byte
	for _, r := range s {
		b = append(b, byte(r))
	}
	return string(b)
}

// text returns the bytes that a part denotes: those of a word, a quoted form or a literal form.
func text(part string) string {
	switch part[0] {
	case '"':
		return escaped.ReplaceAllString(part[1:len(part)-1], "$1")
	case '{':
		_, after, _ := strings.Cut(part, "\r\n")
		return after
	}
	return part
}

// names returns the names of a part, with or without brackets, in small letters.
func names(part string) []string {
	return strings.Fields(strings.ToLower(strings.Trim(part, "()")))
}

// sumOf returns the flags of a part.
func sumOf(part string) api.Flags {
	var f api.Flags
	for _, name := range names(part) {
		f |= flags[name]
	}
	return f
}

// rangesOf returns the set of a part whose numbers may be too great.
func rangesOf(part string) ([]api.Range, bool) {
	var l []api.Range
	for s := range strings.SplitSeq(part, ",") {
		lo, hi, colon := strings.Cut(s, ":")
		if !colon {
			hi = lo
		}
		first, errFirst := strconv.ParseUint(strings.ReplaceAll(lo, "*", "0"), 10, 32)
		second, errSecond := strconv.ParseUint(strings.ReplaceAll(hi, "*", "0"), 10, 32)
		if errFirst != nil || errSecond != nil {
			return nil, false
		}
		l = append(l, api.Range{Lo: uint32(first), Hi: uint32(second)})
	}
	return l, true
}

// wanted returns what Parse is to return for bytes whose literals have at most 12 bytes.
func wanted(s string) (api.Command, bool) {
	s = runes(s)
	m := tagged.FindStringSubmatch(s)
	if m == nil {
		return api.Command{}, false
	}
	c, ok := denoted(s[len(m[0]):])
	if !ok {
		c = api.Command{}
	}
	c.Tag = m[1]
	return c, ok
}

// denoted returns the command without a tag that is written after the tag.
func denoted(s string) (api.Command, bool) {
	if m := bare.FindStringSubmatch(s); m != nil {
		return api.Command{Kind: kindOf(m[1])}, true
	}
	if m := selects.FindStringSubmatch(s); m != nil {
		return api.Command{Kind: 5, Mailbox: narrow(text(m[2]))}, true
	}
	if m := appends.FindStringSubmatch(s); m != nil {
		return api.Command{Kind: 6, Mailbox: narrow(text(m[2])), Flags: sumOf(m[3]), Data: []byte(narrow(text(m[4])))}, true
	}
	if m := fetches.FindStringSubmatch(s); m != nil {
		c := api.Command{Kind: 7}
		for _, name := range names(m[3]) {
			c.Items |= items[name]
		}
		ok := false
		c.Set, ok = rangesOf(m[2])
		return c, ok
	}
	if m := stores.FindStringSubmatch(s); m != nil {
		c := api.Command{Kind: 8, Mode: modes[strings.ToLower(m[3])], Silent: m[4] != "", Flags: sumOf(m[5])}
		ok := false
		c.Set, ok = rangesOf(m[2])
		return c, ok
	}
	return api.Command{}, false
}

// kindOf returns the kind of a verb in letters of any case.
func kindOf(verb string) int {
	for kind, v := range verbs {
		if v == strings.ToUpper(verb) {
			return kind
		}
	}
	return 0
}

// fields returns all fields of a command, so that equal ones have the same.
func fields(c api.Command) string {
	return fmt.Sprintf("%q %d %q %v %d %d %v %d %q", c.Tag, c.Kind, c.Mailbox, append([]api.Range{}, c.Set...), c.Items, c.Mode, c.Silent, c.Flags, c.Data)
}

// short returns as much of a command as a message shows.
func short(c api.Command) string { return fmt.Sprintf("%.200s", fields(c)) }

// check compares what Parse returns for some bytes with what it is to return.
func check(t *testing.T, s string) {
	t.Helper()
	want, wantOK := wanted(s)
	expect(t, s, want, wantOK)
}

// expect compares what Parse returns for some bytes with a result.
func expect(t *testing.T, s string, want api.Command, wantOK bool) {
	t.Helper()
	c, ok := command.Parse([]byte(s))
	if fields(c) != fields(want) || ok != wantOK {
		t.Errorf("Parse(%.200q) = %s, %v, want %s, %v", s, short(c), ok, short(want), wantOK)
	}
	if ok && !command.Valid(c) {
		t.Errorf("Parse(%.200q) = %s, which is not valid", s, short(c))
	}
}

// texts calls f with every string of up to size parts.
func texts(parts []string, size int, f func(s string)) {
	f("")
	level := []string{""}
	for range size {
		var longer []string
		for _, s := range level {
			for _, p := range parts {
				longer = append(longer, s+p)
				f(s + p)
			}
		}
		level = longer
	}
}

// cases calls f with a string in which each letter is a small or a capital one, in every way.
func cases(s string, f func(s string)) {
	i := strings.IndexFunc(s, func(r rune) bool { return 'a' <= r && r <= 'z' || 'A' <= r && r <= 'Z' })
	if i < 0 {
		f(s)
		return
	}
	cases(s[i+1:], func(rest string) {
		f(s[:i] + strings.ToLower(s[i:i+1]) + rest)
		f(s[:i] + strings.ToUpper(s[i:i+1]) + rest)
	})
}

// char returns the string of one byte.
func char(n int) string { return string([]byte{byte(n)}) }

// P7.1

func TestExample(t *testing.T) {
	expect(t, "a1 fetch 2:* (uid FLAGS)", api.Command{Tag: "a1", Kind: api.Fetch, Set: []api.Range{{Lo: 2}}, Items: 3}, true)
}

// point returns the set of one number.
func point(n uint32) []api.Range { return []api.Range{{Lo: n, Hi: n}} }

func TestParse(t *testing.T) {
	type com = api.Command
	for s, want := range map[string]com{
		"a NOOP":            {Tag: "a", Kind: 1},
		"a LOGOUT":          {Tag: "a", Kind: 2},
		"a CLOSE":           {Tag: "a", Kind: 3},
		"a EXPUNGE":         {Tag: "a", Kind: 4},
		"A001 nOOp":         {Tag: "A001", Kind: 1},
		"]!#$&',-.} Logout": {Tag: "]!#$&',-.}", Kind: 2},
		"NOOP NOOP":         {Tag: "NOOP", Kind: 1},

		"a SELECT INBOX":                 {Tag: "a", Kind: 5, Mailbox: "INBOX"},
		"a select inbox":                 {Tag: "a", Kind: 5, Mailbox: "inbox"},
		"a SELECT ]":                     {Tag: "a", Kind: 5, Mailbox: "]"},
		"a SELECT [x]+}":                 {Tag: "a", Kind: 5, Mailbox: "[x]+}"},
		"a SELECT SELECT":                {Tag: "a", Kind: 5, Mailbox: "SELECT"},
		`a SELECT "a b"`:                 {Tag: "a", Kind: 5, Mailbox: "a b"},
		`a SELECT ""`:                    {Tag: "a", Kind: 5},
		`a SELECT "\\ \" (%*"`:           {Tag: "a", Kind: 5, Mailbox: `\ " (%*`},
		"a SELECT \"\t\x01\x7f\"":        {Tag: "a", Kind: 5, Mailbox: "\t\x01\x7f"},
		"a SELECT {0}\r\n":               {Tag: "a", Kind: 5},
		"a SELECT {2}\r\na ":             {Tag: "a", Kind: 5, Mailbox: "a "},
		"a SELECT {5}\r\n\x00\r\n\xff\"": {Tag: "a", Kind: 5, Mailbox: "\x00\r\n\xff\""},

		"a APPEND x {0}\r\n":                            {Tag: "a", Kind: 6, Mailbox: "x"},
		"a append INBOX {3}\r\na b":                     {Tag: "a", Kind: 6, Mailbox: "INBOX", Data: []byte("a b")},
		"a APPEND \"a b\" {2}\r\n\r\n":                  {Tag: "a", Kind: 6, Mailbox: "a b", Data: []byte("\r\n")},
		"a APPEND {1}\r\n( {1}\r\n)":                    {Tag: "a", Kind: 6, Mailbox: "(", Data: []byte(")")},
		"a APPEND {0}\r\n () {0}\r\n":                   {Tag: "a", Kind: 6},
		"a APPEND x] (\\Seen) {1}\r\n\xff":              {Tag: "a", Kind: 6, Mailbox: "x]", Flags: 8, Data: []byte("\xff")},
		"a APPEND \"\" (\\seen \\DRAFT) {1}\r\n\x00":    {Tag: "a", Kind: 6, Flags: 24, Data: []byte("\x00")},
		"a APPEND x (\\Seen \\seen \\Deleted) {1}\r\nb": {Tag: "a", Kind: 6, Mailbox: "x", Flags: 12, Data: []byte("b")},

		"a FETCH 1 FLAGS":                        {Tag: "a", Kind: 7, Set: point(1), Items: 1},
		"a FETCH 1 UID":                          {Tag: "a", Kind: 7, Set: point(1), Items: 2},
		"a FETCH 1 RFC822.SIZE":                  {Tag: "a", Kind: 7, Set: point(1), Items: 4},
		"a FETCH 1 BODY.PEEK[]":                  {Tag: "a", Kind: 7, Set: point(1), Items: 8},
		"a FETCH 1 BODY[]":                       {Tag: "a", Kind: 7, Set: point(1), Items: 16},
		"a fetch * (body[])":                     {Tag: "a", Kind: 7, Set: point(0), Items: 16},
		"a FETCH 1:1 (UID uid)":                  {Tag: "a", Kind: 7, Set: point(1), Items: 2},
		"a FETCH 9:2,*:* (flags)":                {Tag: "a", Kind: 7, Set: []api.Range{{Lo: 9, Hi: 2}, {}}, Items: 1},
		"a FETCH *:4294967295,1 (UID FLAGS uid)": {Tag: "a", Kind: 7, Set: []api.Range{{Hi: math.MaxUint32}, {Lo: 1, Hi: 1}}, Items: 3},
		"a FETCH 2,2 (BODY[] BODY.PEEK[] RFC822.SIZE UID FLAGS)":         {Tag: "a", Kind: 7, Set: []api.Range{{Lo: 2, Hi: 2}, {Lo: 2, Hi: 2}}, Items: 31},
		"a FETCH 3 (flags UID Rfc822.Size body.peek[] BODY[] FLAGS Uid)": {Tag: "a", Kind: 7, Set: point(3), Items: 31},
		"a STORE 1 FLAGS ()":                                              {Tag: "a", Kind: 8, Set: point(1)},
		"a STORE 1 FLAGS (\\Answered)":                                    {Tag: "a", Kind: 8, Set: point(1), Flags: 1},
		"a STORE 1 +FLAGS (\\Flagged)":                                    {Tag: "a", Kind: 8, Set: point(1), Mode: 1, Flags: 2},
		"a STORE 1 -FLAGS (\\Deleted)":                                    {Tag: "a", Kind: 8, Set: point(1), Mode: 2, Flags: 4},
		"a STORE 1 FLAGS.SILENT (\\Seen)":                                 {Tag: "a", Kind: 8, Set: point(1), Silent: true, Flags: 8},
		"a STORE 1 +FLAGS.SILENT (\\Draft)":                               {Tag: "a", Kind: 8, Set: point(1), Mode: 1, Silent: true, Flags: 16},
		"a STORE 1 -FLAGS.SILENT ()":                                      {Tag: "a", Kind: 8, Set: point(1), Mode: 2, Silent: true},
		"a store 1:*,4 -flags.Silent \\seen":                              {Tag: "a", Kind: 8, Set: []api.Range{{Lo: 1}, {Lo: 4, Hi: 4}}, Mode: 2, Silent: true, Flags: 8},
		"a STORE * +flags \\Draft \\Answered":                             {Tag: "a", Kind: 8, Set: point(0), Mode: 1, Flags: 17},
		"a STORE 1 FLAGS \\Seen \\Seen":                                   {Tag: "a", Kind: 8, Set: point(1), Flags: 8},
		"a STORE 1 flags (\\Answered \\Flagged \\Deleted \\Seen \\Draft)": {Tag: "a", Kind: 8, Set: point(1), Flags: 31},
	} {
		expect(t, s, want, true)
		check(t, s)
	}
}

func TestParseNoTag(t *testing.T) {
	for _, s := range []string{
		"", " ", "a", "NOOP", "aNOOP", " NOOP", "  NOOP", " a NOOP", "a\tNOOP", "a\r\nNOOP", "a\x00 NOOP",
		"+ NOOP", "a+ NOOP", "* NOOP", "a* NOOP", "% NOOP", "\\ NOOP", "( NOOP", "a) NOOP", "{1}\r\na NOOP", "\"a\" NOOP", "a\" NOOP", "é NOOP", "a\xff NOOP",
		"a(NOOP) x", "a{1} x", "NOOP\r\n",
	} {
		expect(t, s, api.Command{}, false)
		check(t, s)
	}
	expect(t, strings.Repeat("a", 1<<20), api.Command{}, false)
	if c, ok := command.Parse(nil); fields(c) != fields(api.Command{}) || ok {
		t.Errorf("Parse(nil) = %s, %v", short(c), ok)
	}
}

func TestParseNoCommand(t *testing.T) {
	for _, s := range []string{
		"", " ", " NOOP", "(", "()", "(NOOP)", "\"NOOP\"", "{4}\r\nNOOP", "NOOP ", "NOOP\r", "NOOP\r\n", "NOOP\t", "NOOP\x00", "NOOP x", "NOOP  ", "NOOP()", "NOOP\"\"", "NOOP{0}\r\n", "NO OP", "NOO", "NOOPS", "XNOOP", "N\xd6OP",
		"FOO", "1", "7", "UID", "UID FETCH 1 FLAGS", "CHECK", "LOGIN", "FLAGS", "LOGOUT x", "CLOSE x", "EXPUNGE 1", "CLOSE ", "EXPUNGE ", "LOGOUT ",
		"\t", "\x00", "\xff", "\"", "{", "{1}", "{1}\r\n", "\"a",

		"SELECT", "SELECT ", "SELECT  ", "SELECT  a", "SELECT a ", "SELECT a b", "SELECT a\r\n", "SELECTa", "SELECT(a)", "SELECT (a)", "SELECT ()", "SELECT )", "SELECT\"a\"",
		"SELECT *", "SELECT a*", "SELECT %", "SELECT a%b", "SELECT \\", "SELECT \\Seen", "SELECT a\\", "SELECT a\"b\"", "SELECT \"a\"b", "SELECT \"a\" b", "SELECT a{1}\r\nb", "SELECT {1}\r\nab", "SELECT {1}\r\na ", "SELECT {1}\r\na\r\n",
		"SELECT \"a", "SELECT a\"", "SELECT \"\\a\"", "SELECT \"\r\"", "SELECT \"\x80\"", "SELECT \"é\"", "SELECT é", "SELECT {2}\r\na", "SELECT {01}\r\na", "SELECT {1}\na", "SELECT {1+}\r\na", "SELECT {65537}\r\n",

		"APPEND", "APPEND ", "APPEND a", "APPEND a ", "APPEND {0}\r\n", "APPEND a b", "APPEND a \"b\"", "APPEND a \"\"", "APPEND a ()", "APPEND a () ", "APPEND a (){1}\r\nb", "APPEND a{1}\r\nb", "APPEND  {1}\r\nb", "APPEND a  {1}\r\nb", "APPEND a ()  {1}\r\nb",
		"APPEND () {1}\r\nb", "APPEND a* {1}\r\nb", "APPEND a {1}\r\nbc", "APPEND a {1}\r\nb ", "APPEND a {1}\r\nb c", "APPEND a {1}\r\nb {1}\r\nc", "APPEND a {1}\r\n", "APPEND a {2}\r\nb", "APPEND a () \"b\"", "APPEND a () b", "APPEND a () () {1}\r\nb",
		"APPEND a \\Seen {1}\r\nb", "APPEND a (\\Seen {1}\r\nb", "APPEND a \\Seen) {1}\r\nb", "APPEND a (x) {1}\r\nb", "APPEND a (Seen) {1}\r\nb", "APPEND a (\\Recent) {1}\r\nb", "APPEND a (\\Seen  \\Draft) {1}\r\nb", "APPEND a ( \\Seen) {1}\r\nb", "APPEND a (\\Seen ) {1}\r\nb", "APPEND a ( ) {1}\r\nb",
		"APPEND a (\\Seen\\Draft) {1}\r\nb", "APPEND a (\"\\\\Seen\") {1}\r\nb", "APPEND a ((\\Seen)) {1}\r\nb", "APPEND a (()) {1}\r\nb", "APPEND a {1}\r\nb ()", "APPEND a ({1}\r\nb)", "APPEND a ({5}\r\n\\Seen) {1}\r\nb", "APPEND a [\\Seen] {1}\r\nb",

		"FETCH", "FETCH ", "FETCH 1", "FETCH 1 ", "FETCH 1 ()", "FETCH 1 ( )", "FETCH  1 UID", "FETCH 1  UID", "FETCH 1 UID ", "FETCH UID", "FETCH UID 1", "FETCH 1 UID FLAGS", "FETCH 1 UID (FLAGS)", "FETCH 1 (UID) FLAGS", "FETCH 1 (UID)(FLAGS)", "FETCH 1 (UID) (FLAGS)",
		"FETCH 1(UID)", "FETCH1 UID", "FETCH 1 (UID", "FETCH 1 UID)", "FETCH 1 )UID(", "FETCH 1 ((UID))", "FETCH 1 (UID ())", "FETCH 1 (UID  FLAGS)", "FETCH 1 ( UID)", "FETCH 1 (UID )", "FETCH 1 (UID,FLAGS)", "FETCH 1 (UIDFLAGS)", "FETCH 1 (UID(FLAGS))", "FETCH 1 (UID)\r\n",
		"FETCH 1 x", "FETCH 1 (x)", "FETCH 1 (UID x)", "FETCH 1 (x UID)", "FETCH 1 ALL", "FETCH 1 BODY", "FETCH 1 BODY[", "FETCH 1 BODY[TEXT]", "FETCH 1 BODY.PEEK", "FETCH 1 RFC822", "FETCH 1 RFC822.SIZE[]", "FETCH 1 FLAG", "FETCH 1 \\Seen", "FETCH 1 (\\Seen)", "FETCH 1 .UID", "FETCH 1 FLAGS.SILENT", "FETCH 1 +FLAGS",
		"FETCH 1 \"UID\"", "FETCH 1 (\"UID\")", "FETCH 1 {3}\r\nUID", "FETCH 1 ({3}\r\nUID)", "FETCH \"1\" UID", "FETCH {1}\r\n1 UID", "FETCH (1) UID", "FETCH 0 UID", "FETCH 00 UID", "FETCH 01 UID", "FETCH +1 UID", "FETCH -1 UID", "FETCH a UID", "FETCH 1,0 UID", "FETCH 0:1 UID", "FETCH 1:0 UID",
		"FETCH 4294967296 UID", "FETCH 18446744073709551617 UID", "FETCH 1:4294967296 UID", "FETCH , UID", "FETCH 1, UID", "FETCH ,1 UID", "FETCH 1,,2 UID", "FETCH : UID", "FETCH 1: UID", "FETCH :1 UID", "FETCH 1:2:3 UID", "FETCH ** UID", "FETCH 1* UID", "FETCH *1 UID", "FETCH 1, 2 UID", "FETCH 1 2 UID",

		"STORE", "STORE ", "STORE 1", "STORE 1 ", "STORE 1 FLAGS", "STORE 1 FLAGS ", "STORE 1 ()", "STORE 1 \\Seen", "STORE FLAGS ()", "STORE 0 FLAGS ()", "STORE a FLAGS ()", "STORE 1,a FLAGS ()", "STORE \"1\" FLAGS ()", "STORE {1}\r\n1 FLAGS ()", "STORE (1) FLAGS ()", "STORE 4294967296 FLAGS ()", "STORE 1 2 FLAGS ()",
		"STORE 1 FLAGS()", "STORE 1FLAGS ()", "STORE  1 FLAGS ()", "STORE 1  FLAGS ()", "STORE 1 FLAGS  ()", "STORE 1 FLAGS () ", "STORE 1 FLAGS ()()", "STORE 1 FLAGS () ()", "STORE 1 FLAGS (", "STORE 1 FLAGS )", "STORE 1 FLAGS )(", "STORE 1 FLAGS (())", "STORE 1 FLAGS ( )", "STORE 1 FLAGS ()\r\n",
		"STORE 1 FLAG ()", "STORE 1 UID ()", "STORE 1 *FLAGS ()", "STORE 1 ++FLAGS ()", "STORE 1 +-FLAGS ()", "STORE 1 + FLAGS ()", "STORE 1 FLAGS+ ()", "STORE 1 + ()", "STORE 1 - ()", "STORE 1 .SILENT ()", "STORE 1 +.SILENT ()", "STORE 1 SILENT ()", "STORE 1 FLAGSSILENT ()", "STORE 1 FLAGS.SILEN ()", "STORE 1 FLAGS. ()",
		"STORE 1 FLAGS.SILENT.SILENT ()", "STORE 1 .SILENTFLAGS ()", "STORE 1 FLAGS .SILENT ()", "STORE 1 FLAGS.SILENTX ()", "STORE 1 \"FLAGS\" ()", "STORE 1 {5}\r\nFLAGS ()", "STORE 1 (FLAGS) ()", "STORE 1 0 ()", "STORE 1 1 ()",
		"STORE 1 FLAGS x", "STORE 1 FLAGS (x)", "STORE 1 FLAGS Seen", "STORE 1 FLAGS (\\Recent)", "STORE 1 FLAGS \\Recent", "STORE 1 FLAGS (\\Seen x)", "STORE 1 FLAGS (x \\Seen)", "STORE 1 FLAGS \\Seen x", "STORE 1 FLAGS x \\Seen", "STORE 1 FLAGS \\", "STORE 1 FLAGS (\\)", "STORE 1 FLAGS \\\\Seen", "STORE 1 FLAGS \\*", "STORE 1 FLAGS 8",
		"STORE 1 FLAGS \\Seen ", "STORE 1 FLAGS  \\Seen", "STORE 1 FLAGS \\Seen  \\Draft", "STORE 1 FLAGS (\\Seen  \\Draft)", "STORE 1 FLAGS ( \\Seen)", "STORE 1 FLAGS (\\Seen )", "STORE 1 FLAGS (\\Seen", "STORE 1 FLAGS \\Seen)", "STORE 1 FLAGS \\Seen\\Draft", "STORE 1 FLAGS \\Seen,\\Draft", "STORE 1 FLAGS (\\Seen) \\Draft", "STORE 1 FLAGS \\Seen (\\Draft)",
		"STORE 1 FLAGS \\Seen ()", "STORE 1 FLAGS () \\Seen", "STORE 1 FLAGS \"\\\\Seen\"", "STORE 1 FLAGS (\"\\\\Seen\")", "STORE 1 FLAGS {5}\r\n\\Seen", "STORE 1 FLAGS ({5}\r\n\\Seen)", "STORE 1 FLAGS ((\\Seen))", "STORE 1 FLAGS (\\Seen (\\Draft))", "STORE 1 FLAGS \"\"", "STORE 1 FLAGS {0}\r\n", "STORE 1 FLAGS [\\Seen]",
	} {
		for _, tag := range []string{"a", "A1]"} {
			expect(t, tag+" "+s, api.Command{Tag: tag}, false)
			check(t, tag+" "+s)
		}
	}
}

func TestParseInLettersOfEachCase(t *testing.T) {
	for kind, rest := range []string{"", "", "", "", "", " x", " x {0}\r\n", " 1 uid", " 1 flags ()"} {
		if kind > 0 {
			cases(verbs[kind], func(verb string) {
				c, ok := command.Parse([]byte("t " + verb + rest))
				if c.Kind != kind || c.Tag != "t" || !ok {
					t.Errorf("Parse of %s: %s, %v", verb, short(c), ok)
				}
			})
		}
	}
	for name, item := range items {
		cases(name, func(name string) {
			want := api.Command{Tag: "t", Kind: 7, Set: point(1), Items: item}
			expect(t, "t FETCH 1 "+name, want, true)
			expect(t, "t FETCH 1 ("+name+")", want, true)
		})
	}
	for name, f := range flags {
		cases(name, func(name string) {
			want := api.Command{Tag: "t", Kind: 8, Set: point(1), Flags: f}
			expect(t, "t STORE 1 FLAGS "+name, want, true)
			expect(t, "t STORE 1 FLAGS ("+name+")", want, true)
			expect(t, "t APPEND x ("+name+") {0}\r\n", api.Command{Tag: "t", Kind: 6, Mailbox: "x", Flags: f}, true)
		})
	}
	for name, mode := range modes {
		cases(name, func(name string) {
			expect(t, "t STORE 1 "+name+" ()", api.Command{Tag: "t", Kind: 8, Set: point(1), Mode: mode}, true)
			expect(t, "t STORE 1 "+name+".silent ()", api.Command{Tag: "t", Kind: 8, Set: point(1), Mode: mode, Silent: true}, true)
		})
		cases(".silent", func(silent string) {
			expect(t, "t STORE 1 "+name+silent+" ()", api.Command{Tag: "t", Kind: 8, Set: point(1), Mode: mode, Silent: true}, true)
		})
	}
}

func TestParseOfEverySum(t *testing.T) {
	lists := func(names []string, f func(list string, sum int)) {
		for sum := range 1 << len(names) {
			var up, down []string
			for i, name := range names {
				if sum>>i&1 == 1 {
					up = append(up, name)
					down = append([]string{name}, down...)
				}
			}
			f(strings.Join(up, " "), sum)
			f(strings.Join(down, " "), sum)
			f(strings.Join(append(up, down...), " "), sum)
		}
	}
	lists([]string{"FLAGS", "UID", "RFC822.SIZE", "BODY.PEEK[]", "BODY[]"}, func(list string, sum int) {
		want := api.Command{Tag: "a"}
		if sum > 0 {
			want = api.Command{Tag: "a", Kind: 7, Set: point(1), Items: sum}
		}
		expect(t, "a FETCH 1 ("+list+")", want, sum > 0)
	})
	lists([]string{"\\Answered", "\\Flagged", "\\Deleted", "\\Seen", "\\Draft"}, func(list string, sum int) {
		want := api.Command{Tag: "a", Kind: 8, Set: point(1), Flags: api.Flags(sum)}
		expect(t, "a STORE 1 FLAGS ("+list+")", want, true)
		if sum > 0 {
			expect(t, "a STORE 1 FLAGS "+list, want, true)
		}
		expect(t, "a APPEND x ("+list+") {0}\r\n", api.Command{Tag: "a", Kind: 6, Mailbox: "x", Flags: api.Flags(sum)}, true)
	})
}

// Each byte is tried as a tag, as a mailbox and at other places.
func TestParseOfEachByte(t *testing.T) {
	for n := range 256 {
		c := char(n)
		want := api.Command{Tag: "a"}
		isMailbox := n > 32 && n < 127 && !strings.Contains("(){%*\"\\", c)
		if isMailbox {
			want = api.Command{Tag: "a", Kind: 5, Mailbox: c}
		}
		expect(t, "a SELECT "+c, want, isMailbox)
		for _, s := range []string{
			c + " NOOP", "a" + c + " NOOP", "a" + c + "NOOP", "a " + c, "a " + c + "NOOP", "a NOOP" + c,
			"a SELECT" + c + "x", "a SELECT x" + c, "a SELECT " + c + "x", "a SELECT \"" + c + "\"", "a SELECT \"\\" + c + "\"", "a SELECT {1}\r\n" + c, "a SELECT {" + c + "}\r\nx",
			"a APPEND x" + c + "{1}\r\nx", "a APPEND x {1}\r\n" + c, "a APPEND " + c + " {1}\r\nx", "a APPEND x " + c + ") {1}\r\nx", "a APPEND x (" + c + " {1}\r\nx", "a APPEND x ()" + c + "{1}\r\nx",
			"a FETCH " + c + " UID", "a FETCH 1" + c + " UID", "a FETCH 1" + c + "2 UID", "a FETCH 1" + c + "UID", "a FETCH 1 (UID" + c + "FLAGS)", "a FETCH 1 " + c + "UID)", "a FETCH 1 (UID" + c, "a FETCH 1 RFC822" + c + "SIZE", "a FETCH 1 BODY" + c + "]",
			"a STORE 1 " + c + "FLAGS ()", "a STORE 1 FLAGS" + c + "SILENT ()", "a STORE 1 FLAGS" + c + "()", "a STORE 1 FLAGS " + c + ")", "a STORE 1 FLAGS (" + c, "a STORE 1 FLAGS " + c + "Seen", "a STORE 1 FLAGS \\Seen" + c + "\\Draft", "a STORE 1 FLAGS (\\Seen" + c + "\\Draft)",
		} {
			check(t, s)
		}
	}
}

// Commands that are changed at one place are read as the syntax says, whether they are commands or not.
func TestParseOfChangedCommands(t *testing.T) {
	for _, s := range []string{
		"a NOOP", "a1 logout", "b] CLOSE", "a EXPUNGE", "a SELECT in]box", "a SELECT \"a \\\" b\"", "a SELECT {3}\r\na\r\n",
		"a APPEND x {2}\r\nab", "a APPEND \"x\" (\\Seen \\Draft) {10}\r\n0123456789", "a APPEND {1}\r\nx () {0}\r\n",
		"a FETCH 10:*,4294967295 uid", "a FETCH 1,*:2 (uid Flags BODY[] body.peek[] rfc822.SIZE)",
		"a STORE 1:20,* -FLAGS.SILENT (\\Seen \\Deleted)", "a STORE * +flags \\answered \\flagged", "a STORE 1 FLAGS ()",
	} {
		check(t, s)
		for i := range len(s) {
			check(t, s[:i])
			check(t, s[i:])
			check(t, s[:i]+s[i+1:])
			check(t, s[:i]+s[i:i+1]+s[i:])
			for _, part := range []string{" ", "(", ")", "\"", "\\", "{", "}", "{0}\r\n", "{1}\r\n", "\"\"", "*", ",", ":", "0", "1", "a", "]", "+", "-", ".", "\r\n", "\t", "\x00", "\xff", "()", " x", "\\Seen", "UID"} {
				check(t, s[:i]+part+s[i:])
				check(t, s[:i]+part+s[i+1:])
			}
		}
	}
}

func TestParseOfShortTexts(t *testing.T) {
	for _, x := range []struct {
		first string
		size  int
		parts []string
	}{
		{"", 5, []string{"a", " ", "NOOP", "SELECT", "\"\"", "+"}},
		{"a ", 5, []string{"NOOP", "SELECT", " ", "x", "\"y\"", "{1}\r\n", "("}},
		{"a APPEND", 6, []string{" ", "x", "\"y\"", "{1}\r\n", "()", "(\\Seen)"}},
		{"a APPEND x (", 6, []string{" ", "\\Draft", "\\SEEN", ")", "{1}\r\n", "("}},
		{"a FETCH", 6, []string{" ", "1", "*", ",", ":", "UID"}},
		{"a FETCH 1 ", 6, []string{" ", "(", ")", "UID", "flags", "x"}},
		{"a STORE 1", 6, []string{" ", "+", "FLAGS", ".SILENT", "()", "\\Seen"}},
		{"a STORE 1 FLAGS ", 6, []string{" ", "(", ")", "\\Seen", "\\Draft", "x"}},
	} {
		texts(x.parts, x.size, func(s string) { check(t, x.first+s) })
	}
}

// literalOf returns the literal form of some bytes.
func literalOf(s string) string { return "{" + strconv.Itoa(len(s)) + "}\r\n" + s }

func TestParseOfLongParts(t *testing.T) {
	for _, n := range []int{8191, 8192, 8193, most - 1, most, most + 1, 1 << 17} {
		body := strings.Repeat("\r\n(\"\x00\xff{", n/7+1)[:n]
		word := strings.Repeat("x]", n)[:n]
		for s, want := range map[string]api.Command{
			"a APPEND x " + literalOf(body):              {Kind: 6, Mailbox: "x", Data: []byte(body)},
			"a APPEND x () " + literalOf(body):           {Kind: 6, Mailbox: "x", Data: []byte(body)},
			"a SELECT " + literalOf(body):                {Kind: 5, Mailbox: body},
			"a SELECT " + word:                           {Kind: 5, Mailbox: word},
			"a SELECT \"" + word + "\"":                  {Kind: 5, Mailbox: word},
			"a APPEND " + word + " {0}\r\n":              {Kind: 6, Mailbox: word},
			"a APPEND \"" + word + "\" {1}\r\n(":         {Kind: 6, Mailbox: word, Data: []byte("(")},
			"a APPEND " + literalOf(body) + " {1}\r\n\"": {Kind: 6, Mailbox: body, Data: []byte("\"")},
		} {
			if n > most {
				want = api.Command{}
			}
			want.Tag = "a"
			expect(t, s, want, n <= most)
		}
	}
	escapes := strings.Repeat(`\"`, most)
	expect(t, "a SELECT \""+escapes+"\"", api.Command{Tag: "a", Kind: 5, Mailbox: strings.Repeat(`"`, most)}, true)
	expect(t, "a SELECT \""+escapes+"a\"", api.Command{Tag: "a"}, false)
	tag := strings.Repeat("t]", 1<<17)
	expect(t, tag+" NOOP", api.Command{Tag: tag, Kind: 1}, true)
	expect(t, tag+" NOPE", api.Command{Tag: tag}, false)
}

func TestParseOfManyParts(t *testing.T) {
	const n = 1 << 14
	seen := strings.Repeat("\\Seen ", n) + "\\Draft"
	uid := strings.Repeat("UID ", n) + "FLAGS"
	stored := api.Command{Tag: "a", Kind: 8, Set: point(1), Flags: 24}
	fetched := api.Command{Tag: "a", Kind: 7, Set: point(1), Items: 3}
	expect(t, "a STORE 1 FLAGS "+seen, stored, true)
	expect(t, "a STORE 1 FLAGS ("+seen+")", stored, true)
	expect(t, "a FETCH 1 ("+uid+")", fetched, true)
	fetched.Set = make([]api.Range, n)
	expect(t, "a FETCH *"+strings.Repeat(",*", n-1)+" ("+uid+")", fetched, true)
	no := api.Command{Tag: "a"}
	expect(t, "a STORE 1 FLAGS "+seen+" ", no, false)
	expect(t, "a STORE 1 FLAGS ("+seen+" x)", no, false)
	expect(t, "a FETCH 1 "+uid, no, false)
	expect(t, "a FETCH 1 "+strings.Repeat("(", n)+"UID"+strings.Repeat(")", n), no, false)
	expect(t, "a NOOP"+strings.Repeat(" ", n), no, false)
	expect(t, "a "+strings.Repeat("NOOP", n), no, false)
	expect(t, "a FETCH *"+strings.Repeat(",*", n)+", UID", no, false)
}

// P7.2

func TestValid(t *testing.T) {
	const maxInt, minInt = math.MaxInt, math.MinInt
	for _, x := range []struct {
		c    api.Command
		want bool
	}{
		{api.Command{}, false},
		{api.Command{Tag: "a"}, false},
		{api.Command{Kind: 1}, false},
		{api.Command{Tag: "a", Kind: 1}, true},
		{api.Command{Tag: "A]1", Kind: 4}, true},
		{api.Command{Tag: "a ", Kind: 1}, false},
		{api.Command{Tag: "+", Kind: 1}, false},
		{api.Command{Tag: "é", Kind: 1}, false},
		{api.Command{Tag: strings.Repeat("a", 1<<17), Kind: 1}, true},
		{api.Command{Tag: "a", Kind: -1}, false},
		{api.Command{Tag: "a", Kind: 9}, false},
		{api.Command{Tag: "a", Kind: minInt}, false},
		{api.Command{Tag: "a", Kind: maxInt}, false},
		{api.Command{Tag: "a", Kind: 5}, true},
		{api.Command{Tag: "a", Kind: 5, Mailbox: "\x00\r\n\xff é"}, true},
		{api.Command{Tag: "a", Kind: 6}, true},
		{api.Command{Tag: "a", Kind: 6, Mailbox: "*", Flags: 31, Data: []byte("\x00\xff")}, true},
		{api.Command{Tag: "a", Kind: 7, Set: point(1), Items: 1}, true},
		{api.Command{Tag: "a", Kind: 7, Set: []api.Range{{}, {Lo: 9, Hi: 2}, {Hi: math.MaxUint32}}, Items: 31}, true},
		{api.Command{Tag: "a", Kind: 7, Set: point(1), Items: 0}, false},
		{api.Command{Tag: "a", Kind: 7, Set: point(1), Items: minInt}, false},
		{api.Command{Tag: "a", Kind: 7, Set: point(1), Items: maxInt}, false},
		{api.Command{Tag: "a", Kind: 7, Set: []api.Range{}, Items: 1}, false},
		{api.Command{Tag: "a", Kind: 8, Set: point(0)}, true},
		{api.Command{Tag: "a", Kind: 8, Set: point(0), Mode: 2, Silent: true, Flags: 31}, true},
		{api.Command{Tag: "a", Kind: 8, Set: point(0), Mode: minInt}, false},
		{api.Command{Tag: "a", Kind: 8, Set: point(0), Mode: maxInt}, false},
		{api.Command{Tag: "a", Kind: 8}, false},
	} {
		if command.Valid(x.c) != x.want {
			t.Errorf("Valid(%s) = %v", short(x.c), !x.want)
		}
	}
}

func TestValidTags(t *testing.T) {
	for n := range 256 {
		c := char(n)
		want := tagged.MatchString(runes(c) + " ")
		for tag, want := range map[string]bool{c: want, "a" + c: want, c + "a": want, c + c: want, "a" + c + "]": want, c + " ": false, " " + c: false, c + "+": false, c + "\r\n": false} {
			if command.Valid(api.Command{Tag: tag, Kind: api.Noop}) != want {
				t.Errorf("Valid with the tag %q: %v", tag, !want)
			}
		}
	}
}

// Each field has permitted and other values, in all combinations for each kind.
func TestValidFields(t *testing.T) {
	uses := func(kind int, kinds ...int) bool {
		for _, k := range kinds {
			if k == kind {
				return true
			}
		}
		return false
	}
	long := strings.Repeat("\xff", most+1)
	datas := [][]byte{nil, {}, []byte("x"), []byte(long[1:]), []byte(long)}
	each := func(kind int, f func(c api.Command)) {
		for _, box := range []string{"", "x", long[1:], long} {
			for _, data := range datas {
				for _, set := range [][]api.Range{nil, {}, {{}}, {{Lo: 2, Hi: 1}, {Lo: 3}}} {
					for _, n := range []api.Flags{0, 1, 16, 31, 32, 33, 128, 255} {
						f(api.Command{Tag: "a", Kind: kind, Mailbox: box, Data: data, Set: set, Flags: n})
					}
				}
			}
		}
	}
	for kind := -2; kind < 12; kind++ {
		each(kind, func(c api.Command) {
			own := kind >= 1 && kind <= 8
			own = own && (c.Mailbox == "" || uses(kind, 5, 6) && len(c.Mailbox) <= most)
			own = own && (len(c.Data) == 0 || uses(kind, 6) && len(c.Data) <= most)
			own = own && (c.Flags == 0 || uses(kind, 6, 8) && c.Flags <= 31)
			own = own && (len(c.Set) > 0) == uses(kind, 7, 8)
			for _, c.Items = range []int{-1, 0, 1, 2, 16, 31, 32, 33, 64} {
				for _, c.Mode = range []int{-1, 0, 1, 2, 3, 4} {
					for _, c.Silent = range []bool{false, true} {
						want := own && (kind == 7) == (c.Items != 0) && c.Items >= 0 && c.Items <= 31
						want = want && (c.Mode == 0 || kind == 8 && (c.Mode == 1 || c.Mode == 2)) && (!c.Silent || kind == 8)
						if command.Valid(c) != want {
							t.Errorf("Valid(%s) = %v", short(c), !want)
						}
					}
				}
			}
		})
	}
}

// different returns commands that differ from each other, many of them in one field from the first one.
func different() []api.Command {
	first := func() api.Command {
		return api.Command{Tag: "a", Kind: 6, Mailbox: "x", Set: []api.Range{{Lo: 1, Hi: 2}, {Lo: 3}}, Items: 4, Mode: 1, Silent: true, Flags: 9, Data: []byte("ab")}
	}
	l := []api.Command{first(), {}}
	for _, change := range []func(c *api.Command){
		func(c *api.Command) { c.Tag = "A" },
		func(c *api.Command) { c.Tag = "" },
		func(c *api.Command) { c.Tag = "ab" },
		func(c *api.Command) { c.Kind = 5 },
		func(c *api.Command) { c.Kind = 0 },
		func(c *api.Command) { c.Kind = 6 + 1<<32 },
		func(c *api.Command) { c.Kind = -6 },
		func(c *api.Command) { c.Mailbox = "X" },
		func(c *api.Command) { c.Mailbox = "" },
		func(c *api.Command) { c.Mailbox = "x\x00" },
		func(c *api.Command) { c.Set = nil },
		func(c *api.Command) { c.Set = c.Set[:1] },
		func(c *api.Command) { c.Set = append(c.Set, api.Range{}) },
		func(c *api.Command) { c.Set[0].Lo = 2 },
		func(c *api.Command) { c.Set[0] = api.Range{Lo: 2, Hi: 1} },
		func(c *api.Command) { c.Set[1].Hi = 3 },
		func(c *api.Command) { c.Set[0], c.Set[1] = c.Set[1], c.Set[0] },
		func(c *api.Command) { c.Items = 5 },
		func(c *api.Command) { c.Items = 0 },
		func(c *api.Command) { c.Items = -4 },
		func(c *api.Command) { c.Mode = 0 },
		func(c *api.Command) { c.Mode = -1 },
		func(c *api.Command) { c.Silent = false },
		func(c *api.Command) { c.Flags = 0 },
		func(c *api.Command) { c.Flags = 9 + 128 },
		func(c *api.Command) { c.Data = nil },
		func(c *api.Command) { c.Data = c.Data[:1] },
		func(c *api.Command) { c.Data = []byte("aB") },
		func(c *api.Command) { c.Data = []byte("ba") },
		func(c *api.Command) { c.Data = []byte("ab\x00") },
	} {
		c := first()
		change(&c)
		l = append(l, c)
	}
	return l
}

func TestSame(t *testing.T) {
	l, again := different(), different()
	for i, a := range l {
		for j, b := range again {
			if command.Same(a, b) != (i == j) {
				t.Errorf("Same(%s, %s) = %v", short(a), short(b), i != j)
			}
		}
	}
}

// An empty list may be nil.
func TestSameOfEmptyLists(t *testing.T) {
	sets := [][]api.Range{nil, {}, make([]api.Range, 0, 4), {{}}}
	datas := [][]byte{nil, {}, make([]byte, 0, 4), {0}}
	for i := range sets {
		for j := range datas {
			for k := range sets {
				for l := range datas {
					a, b := api.Command{Set: sets[i], Data: datas[j]}, api.Command{Set: sets[k], Data: datas[l]}
					if want := (i == 3) == (k == 3) && (j == 3) == (l == 3); command.Same(a, b) != want {
						t.Errorf("Same(%s, %s) = %v", short(a), short(b), !want)
					}
				}
			}
		}
	}
}

func TestSameOfLongCommands(t *testing.T) {
	long := func() api.Command {
		s := strings.Repeat("a", 1<<20)
		return api.Command{Tag: s, Mailbox: s, Set: make([]api.Range, 1<<18), Data: []byte(s)}
	}
	if !command.Same(long(), long()) {
		t.Error("long commands that are equal are not the same")
	}
	c := long()
	c.Data[len(c.Data)-1]++
	d := long()
	d.Set[len(d.Set)-1].Hi++
	if command.Same(c, long()) || command.Same(long(), d) {
		t.Error("long commands that differ at the end are the same")
	}
}

// P7.3

func TestVerb(t *testing.T) {
	for kind := -300; kind < 300; kind++ {
		want := ""
		if kind >= 1 && kind <= 8 {
			want = verbs[kind]
		}
		if got := command.Verb(kind); got != want {
			t.Errorf("Verb(%d) = %q", kind, got)
		}
	}
	for _, kind := range []int{math.MinInt, math.MinInt + 1, math.MinInt32, 1<<32 + 1, 1<<32 + 8, math.MaxInt32, math.MaxInt} {
		if got := command.Verb(kind); got != "" {
			t.Errorf("Verb(%d) = %q", kind, got)
		}
	}
	for kind, want := range map[int]string{api.Noop: "NOOP", api.Logout: "LOGOUT", api.Close: "CLOSE", api.Expunge: "EXPUNGE", api.Select: "SELECT", api.Append: "APPEND", api.Fetch: "FETCH", api.Store: "STORE"} {
		if got := command.Verb(kind); got != want {
			t.Errorf("Verb(%d) = %q", kind, got)
		}
	}
}

// checkNames compares a function that finds names with the names that there are.
func checkNames(t *testing.T, f func(string) (int, bool), known map[string]int) {
	t.Helper()
	try := func(s string, want int) {
		if n, ok := f(s); n != want || ok != (want > 0) {
			t.Errorf("%q has the number %d, %v, want %d", s, n, ok, want)
		}
	}
	for name, want := range known {
		cases(name, func(s string) { try(s, want) })
		for i := range len(name) {
			// Other bytes at one place, those that some folding of letters takes for the same among them.
			for n := range 256 {
				s := name[:i] + char(n) + name[i+1:]
				try(s, known[string(lower(s))])
				try(name[:i]+char(n)+name[i:], 0)
			}
			for _, part := range []string{"\u017f", "\u212a", "\u0130", "\u0131", "\uff25", ""} {
				try(name[:i]+part+name[i+1:], 0)
			}
			try(name[:i], 0)
			try(name[i:]+name[:i], known[name[i:]+name[:i]])
		}
		for _, s := range []string{name + " ", " " + name, name + "\r\n", name + "\x00", name + "s", name + name, "+" + name, "(" + name + ")", "\"" + name + "\"", "\\" + name, strings.Repeat(name, 1<<14)} {
			try(s, 0)
		}
	}
	for _, s := range []string{"", " ", "0", "1", "8", "x", "[]", "\x00", "é", strings.Repeat("a", 1<<20)} {
		try(s, 0)
	}
}

// lower returns the bytes of a string with small letters.
func lower(s string) []byte {
	b := []byte(s)
	for i, c := range b {
		if c >= 'A' && c <= 'Z' {
			b[i] = c + 'a' - 'A'
		}
	}
	return b
}

func TestKind(t *testing.T) {
	kinds := map[string]int{}
	for kind, verb := range verbs {
		if kind > 0 {
			kinds[strings.ToLower(verb)] = kind
		}
	}
	checkNames(t, command.Kind, kinds)
	for _, s := range []string{"UID", "FLAGS", "BODY[]", "CHECK", "LOGIN", "NOOP LOGOUT", "NOOP,LOGOUT"} {
		if kind, ok := command.Kind(s); kind != 0 || ok {
			t.Errorf("Kind(%q) = %d, %v", s, kind, ok)
		}
	}
}

func TestItem(t *testing.T) {
	checkNames(t, command.Item, items)
	for name, want := range map[string]int{"FLAGS": api.ItemFlags, "UID": api.ItemUID, "RFC822.SIZE": api.ItemSize, "BODY.PEEK[]": api.ItemPeek, "BODY[]": api.ItemBody} {
		if item, ok := command.Item(name); item != want || !ok {
			t.Errorf("Item(%q) = %d, %v", name, item, ok)
		}
	}
	for _, s := range []string{"NOOP", "BODY", "BODY.PEEK", "BODY[TEXT]", "BODY[ ]", "RFC822", "RFC822.", "RFC822.TEXT", "ALL", "FAST", "FLAG", "FLAGS.SILENT", "\\Seen", "UID FLAGS", "UIDFLAGS"} {
		if item, ok := command.Item(s); item != 0 || ok {
			t.Errorf("Item(%q) = %d, %v", s, item, ok)
		}
	}
}

// P7.4

// checkValid checks that what Parse returns for some bytes is valid, or has a tag alone, and returns whether it is a command.
func checkValid(t *testing.T, s string) bool {
	t.Helper()
	c, ok := command.Parse([]byte(s))
	if ok && !command.Valid(c) {
		t.Errorf("Parse(%.200q) = %s, which is not valid", s, short(c))
	}
	if !ok && !command.Same(c, api.Command{Tag: c.Tag}) {
		t.Errorf("Parse(%.200q) = %s and false", s, short(c))
	}
	return ok
}

func TestParsedCommandsAreValid(t *testing.T) {
	count := 0
	for _, head := range []string{"a ", "] ", "+ ", ""} {
		for _, verb := range append([]string{"x"}, verbs...) {
			texts([]string{" x", " 1:*", " UID", " (FLAGS uid)", " +FLAGS.silent", " \\Seen", " ()", " \"a\"", " {1}\r\n)"}, 3, func(rest string) {
				if checkValid(t, head+verb+rest) {
					count++
				}
			})
		}
	}
	// With two of the tags: 4 bare commands, 5 of SELECT, 10 of APPEND, 2 of FETCH and 2 of STORE.
	if want := 2 * (4 + 5 + 10 + 2 + 2); count != want {
		t.Errorf("%d commands, want %d", count, want)
	}
}

// Some parts have more bytes than a valid command has there.
func TestParsedCommandsOfLongPartsAreValid(t *testing.T) {
	long := strings.Repeat("x", most+1)
	count := 0
	for _, head := range []string{"a SELECT", "a APPEND", "a APPEND x ()"} {
		texts([]string{" " + long, " " + long[1:], " \"" + long + "\"", " \"" + long[1:] + "\"", " " + literalOf(long), " " + literalOf(long[1:])}, 2, func(rest string) {
			if checkValid(t, head+rest) {
				count++
			}
		})
	}
	if want := 3 + 3 + 1; count != want {
		t.Errorf("%d commands, want %d", count, want)
	}
}

// P1 and P2

func TestBytesBeyondTheLengthAreNotRead(t *testing.T) {
	const text = "a APPEND x (\\Seen) {3}\r\na\"b"
	b := []byte(text + "\r\n{1}")
	for n := range len(text) + 1 {
		want, wantOK := wanted(text[:n])
		if c, ok := command.Parse(b[:n]); fields(c) != fields(want) || ok != wantOK {
			t.Errorf("Parse of %d bytes: %s, %v", n, short(c), ok)
		}
	}
	if string(b) != text+"\r\n{1}" {
		t.Errorf("the bytes are changed: %q", b)
	}
	set, data := []api.Range{{Lo: 1}, {Lo: 2}}, []byte("ab")
	if !command.Same(api.Command{Set: set[:1], Data: data[:1]}, api.Command{Set: []api.Range{{Lo: 1}}, Data: []byte("a")}) {
		t.Error("Same compares elements beyond the length")
	}
}

func TestMemory(t *testing.T) {
	for _, text := range []string{"a APPEND {1}\r\nx (\\Seen) {3}\r\na\"b", "a FETCH 1,2:* (UID FLAGS)", "tag SELECT box"} {
		b := []byte(text)
		c, _ := command.Parse(b)
		again, _ := command.Parse(b)
		if string(b) != text {
			t.Errorf("Parse has modified its argument: %q", b)
		}
		clear(b)
		want, _ := wanted(text)
		if fields(c) != fields(want) {
			t.Errorf("a change of the argument changes the result: %s", short(c))
		}
		clear(c.Set[:cap(c.Set)])
		clear(c.Data[:cap(c.Data)])
		if fields(again) != fields(want) {
			t.Errorf("results share memory: %s", short(again))
		}
	}
	c := api.Command{Tag: "a", Kind: 8, Set: point(7), Mode: 1, Flags: 3}
	before := fields(c)
	command.Valid(c)
	command.Same(c, c)
	if fields(c) != before {
		t.Errorf("an argument is modified: %s", short(c))
	}
}

func TestConcurrentCalls(t *testing.T) {
	var all sync.WaitGroup
	for range 8 {
		all.Go(func() {
			for range 20 {
				for _, s := range []string{"a NOOP", "b SELECT \"x\"", "c APPEND x () {1}\r\ny", "d FETCH 1:* (UID)", "e STORE 2 -FLAGS \\Seen", "f FETCH", "g", "h STORE 0 FLAGS ()"} {
					check(t, s)
				}
				if item, _ := command.Item("uid"); item != 2 || command.Verb(3) != "CLOSE" {
					t.Error("a concurrent call has another result")
				}
			}
		})
	}
	all.Wait()
}
