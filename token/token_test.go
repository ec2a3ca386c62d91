package token_test

import (
	"fmt"
	"math"
	"regexp"
	"slices"
	"strconv"
	"strings"
	"sync"
	"testing"

	"cubbyhole/token"
)

// most is the greatest number of bytes of a literal that is read.
const most = 65536

// The word bytes and the tag bytes, as the chapters' sentences give them.
const (
	words = "!#$%&'*+,-./0123456789:;<=>?@ABCDEFGHIJKLMNOPQRSTUVWXYZ[\\]^_`abcdefghijklmnopqrstuvwxyz|}~"
	tags  = "!#$&',-./0123456789:;<=>?@ABCDEFGHIJKLMNOPQRSTUVWXYZ[]^_`abcdefghijklmnopqrstuvwxyz|}~"
)

// The tokens that more than one byte begins, as the chapter's table gives them.
var (
	word    = regexp.MustCompile(`^[!#-'*-z|}~]+`)
	quoted  = regexp.MustCompile(`^"((?:[\x01-\x09\x0b\x0c\x0e-!#-\[\]-\x7f]|\\["\\])*)"`)
	escaped = regexp.MustCompile(`\\(.)`)
	literal = regexp.MustCompile(`^\{(0|[1-9][0-9]{0,9})\}\r\n`)
	tag     = regexp.MustCompile(`^([!#$&',-\[\]-z|}~]+) `)
)

// one returns the token with which s begins, and the number of its bytes, which is 0 if there is none.
func one(s string) (token.Token, int) {
	switch s[0] {
	case ' ':
		return token.Token{Kind: 1}, 1
	case '(':
		return token.Token{Kind: 2}, 1
	case ')':
		return token.Token{Kind: 3}, 1
	}
	if w := word.FindString(s); w != "" {
		return token.Token{Kind: 4, Text: w}, len(w)
	}
	if m := quoted.FindStringSubmatch(s); m != nil {
		return token.Token{Kind: 5, Text: escaped.ReplaceAllString(m[1], "$1")}, len(m[0])
	}
	if m := literal.FindStringSubmatch(s); m != nil {
		if n, _ := strconv.Atoi(m[1]); n <= most && n <= len(s)-len(m[0]) {
			return token.Token{Kind: 6, Text: s[len(m[0]) : len(m[0])+n]}, len(m[0]) + n
		}
	}
	return token.Token{}, 0
}

// wanted returns what Tokens is to return.
func wanted(s string) ([]token.Token, int) {
	var l []token.Token
	at := 0
	for at < len(s) {
		t, n := one(s[at:])
		if n == 0 {
			return nil, at
		}
		t.At = at
		l = append(l, t)
		at += n
	}
	return append(l, token.Token{At: at}), -1
}

// check compares what Tokens and Tag return for some bytes with what they are to return, and the joined tokens with the bytes.
func check(t *testing.T, s string) {
	t.Helper()
	l, at := token.Tokens([]byte(s))
	want, wantAt := wanted(s)
	if !slices.Equal(l, want) || at != wantAt {
		t.Errorf("Tokens(%.80q) = %s, %d, want %s, %d", s, short(l), at, short(want), wantAt)
	}
	if got := string(token.Join(l...)); at < 0 && got != s || at >= 0 && got != "" {
		t.Errorf("the tokens of %.80q are joined to %.80q", s, got)
	}
	checkTag(t, s)
}

// checkTag compares what Tag returns for some bytes with what it is to return.
func checkTag(t *testing.T, s string) {
	t.Helper()
	want, wantN, wantOK := "", 0, false
	if m := tag.FindStringSubmatch(s); m != nil {
		want, wantN, wantOK = m[1], len(m[0]), true
	}
	if got, n, ok := token.Tag([]byte(s)); got != want || n != wantN || ok != wantOK {
		t.Errorf("Tag(%.80q) = %.80q, %d, %v", s, got, n, ok)
	}
}

// short returns some tokens as a message shows them.
func short(l []token.Token) string {
	s := ""
	for _, t := range l[:min(len(l), 20)] {
		s += fmt.Sprintf("%d %.40q %d, ", t.Kind, t.Text, t.At)
	}
	return fmt.Sprintf("%d tokens: %s", len(l), s)
}

// texts calls f with every string of up to size parts.
func texts(parts []string, size int, f func(s string)) {
	f("")
	level := []string{""}
	for range size {
		var longer []string
		for _, s := range level {
			for _, p := range parts {
				longer = append(longer, s+p)
				f(s + p)
			}
		}
		level = longer
	}
}

// char returns the string of one byte.
func char(n int) string { return string([]byte{byte(n)}) }

// kinds returns the kinds of some tokens, as digits.
func kinds(l []token.Token) string {
	s := ""
	for _, t := range l {
		s += strconv.Itoa(t.Kind)
	}
	return s
}

// P6.1

func TestKinds(t *testing.T) {
	want := []int{0, 1, 2, 3, 4, 5, 6}
	if got := []int{token.End, token.Space, token.Open, token.Close, token.Word, token.Quoted, token.Literal}; !slices.Equal(got, want) {
		t.Errorf("%v", got)
	}
}

func TestExample(t *testing.T) {
	l, at := token.Tokens([]byte("a FETCH 1 (UID)"))
	want := []token.Token{
		{Kind: token.Word, Text: "a", At: 0},
		{Kind: token.Space, At: 1},
		{Kind: token.Word, Text: "FETCH", At: 2},
		{Kind: token.Space, At: 7},
		{Kind: token.Word, Text: "1", At: 8},
		{Kind: token.Space, At: 9},
		{Kind: token.Open, At: 10},
		{Kind: token.Word, Text: "UID", At: 11},
		{Kind: token.Close, At: 14},
		{Kind: token.End, At: 15},
	}
	if !slices.Equal(l, want) || at != -1 {
		t.Errorf("%v, %d", l, at)
	}
}

func TestTokens(t *testing.T) {
	type tokens = []token.Token
	for s, want := range map[string]tokens{
		"":                   {{At: 0}},
		" ":                  {{Kind: 1}, {At: 1}},
		"  ":                 {{Kind: 1}, {Kind: 1, At: 1}, {At: 2}},
		"()":                 {{Kind: 2}, {Kind: 3, At: 1}, {At: 2}},
		")(":                 {{Kind: 3}, {Kind: 2, At: 1}, {At: 2}},
		"ab":                 {{Kind: 4, Text: "ab"}, {At: 2}},
		"a(b)c":              {{Kind: 4, Text: "a"}, {Kind: 2, At: 1}, {Kind: 4, Text: "b", At: 2}, {Kind: 3, At: 3}, {Kind: 4, Text: "c", At: 4}, {At: 5}},
		`\Seen`:              {{Kind: 4, Text: `\Seen`}, {At: 5}},
		`\\`:                 {{Kind: 4, Text: `\\`}, {At: 2}},
		"}":                  {{Kind: 4, Text: "}"}, {At: 1}},
		"]%*+":               {{Kind: 4, Text: "]%*+"}, {At: 4}},
		"BODY.PEEK[]":        {{Kind: 4, Text: "BODY.PEEK[]"}, {At: 11}},
		"5:*,2":              {{Kind: 4, Text: "5:*,2"}, {At: 5}},
		`""`:                 {{Kind: 5}, {At: 2}},
		`"a"`:                {{Kind: 5, Text: "a"}, {At: 3}},
		`"a b"`:              {{Kind: 5, Text: "a b"}, {At: 5}},
		`"\"\\"`:             {{Kind: 5, Text: `"\`}, {At: 6}},
		`"()"`:               {{Kind: 5, Text: "()"}, {At: 4}},
		`"{1}"`:              {{Kind: 5, Text: "{1}"}, {At: 5}},
		"\"\t\x01\x7f\"":     {{Kind: 5, Text: "\t\x01\x7f"}, {At: 5}},
		`"a""b"`:             {{Kind: 5, Text: "a"}, {Kind: 5, Text: "b", At: 3}, {At: 6}},
		`a"b"c`:              {{Kind: 4, Text: "a"}, {Kind: 5, Text: "b", At: 1}, {Kind: 4, Text: "c", At: 4}, {At: 5}},
		`\"a"`:               {{Kind: 4, Text: `\`}, {Kind: 5, Text: "a", At: 1}, {At: 4}},
		"{0}\r\n":            {{Kind: 6}, {At: 5}},
		"{1}\r\na":           {{Kind: 6, Text: "a"}, {At: 6}},
		"{1}\r\nab":          {{Kind: 6, Text: "a"}, {Kind: 4, Text: "b", At: 6}, {At: 7}},
		"{2}\r\n\r\n":        {{Kind: 6, Text: "\r\n"}, {At: 7}},
		"{3}\r\n\x00\xff\n":  {{Kind: 6, Text: "\x00\xff\n"}, {At: 8}},
		"{5}\r\n{0}\r\n":     {{Kind: 6, Text: "{0}\r\n"}, {At: 10}},
		"{0}\r\n{0}\r\n":     {{Kind: 6}, {Kind: 6, At: 5}, {At: 10}},
		"x{1}\r\n\"y":        {{Kind: 4, Text: "x"}, {Kind: 6, Text: `"`, At: 1}, {Kind: 4, Text: "y", At: 7}, {At: 8}},
		"({1}\r\n)":          {{Kind: 2}, {Kind: 6, Text: ")", At: 1}, {At: 7}},
		"{1}\r\n (":          {{Kind: 6, Text: " "}, {Kind: 2, At: 6}, {At: 7}},
		"\"\"{0}\r\n\"{0}\"": {{Kind: 5}, {Kind: 6, At: 2}, {Kind: 5, Text: "{0}", At: 7}, {At: 12}},
	} {
		if l, at := token.Tokens([]byte(s)); !slices.Equal(l, want) || at != -1 {
			t.Errorf("Tokens(%q) = %v, %d", s, l, at)
		}
		check(t, s)
	}
	if l, at := token.Tokens(nil); !slices.Equal(l, tokens{{}}) || at != -1 {
		t.Errorf("Tokens(nil) = %v, %d", l, at)
	}
}

func TestTokensOfCommands(t *testing.T) {
	for s, want := range map[string]string{
		"a NOOP":                 "4140",
		"a1 select inbox":        "414140",
		"a1 SELECT \"in box\"":   "414150",
		"a1 SELECT {5}\r\ninbox": "414160",
		"a APPEND x (\\Seen \\Draft) {3}\r\na\r\n": "41414124143160",
		"a APPEND {1}\r\nx () {0}\r\n":             "41416123160",
		"a STORE 1:* -FLAGS.SILENT (\\Deleted)":    "414141412430",
		"a STORE 1 FLAGS \\Seen \\Draft":           "414141414140",
		"a FETCH 1,2:4 (BODY[] RFC822.SIZE)":       "414141241430",
		" a  b ":                                   "1411410",
	} {
		l, at := token.Tokens([]byte(s))
		if kinds(l) != want || at != -1 {
			t.Errorf("Tokens(%q) = %s, %d", s, kinds(l), at)
		}
		check(t, s)
		for i := range len(s) {
			check(t, s[:i])
			check(t, s[i:])
		}
	}
}

func TestNoTokens(t *testing.T) {
	for s, want := range map[string]int{
		"\t": 0, "\r": 0, "\n": 0, "\r\n": 0, "\x00": 0, "\x1f": 0, "\x7f": 0, "\x80": 0, "\xff": 0, "é": 0, "\u00a0": 0, // no token begins
		"a\tb": 1, "a NOOP\r\n": 6, "ab\x7f": 2, "a b\x00c": 3, "(\xff)": 1, "()\n": 2, "caf\u00e9": 3, " \x7f": 1,
		`"`: 0, `"a`: 0, `a "b`: 2, `x"`: 1, `x"y`: 1, `"""`: 2, `"\"`: 0, `"\a"`: 0, `"\`: 0, `"a\\\"`: 0, // no quoted form
		"\"\r\"": 0, "\"\n\"": 0, "\"\x00\"": 0, "\"\x80\"": 0, "\"\xff\"": 0, "\"é\"": 0, "\"a\r\nb\"": 0,
		"{": 0, "a {": 2, "{1": 0, "{1}": 0, "{1}\r": 0, "{1}\r\n": 0, "{2}\r\na": 0, "a {2}\r\nb": 2, "{0}": 0, "{0}\r": 0, // no literal form
		"{}\r\n": 0, "{a}\r\na": 0, "{-1}\r\na": 0, "{+1}\r\na": 0, "{1+}\r\na": 0, "{ 1}\r\na": 0, "{1 }\r\na": 0, "{1} \r\na": 0,
		"{01}\r\na": 0, "{00}\r\n": 0, "{1}\na": 0, "{1}\ra": 0, "{1}\n\ra": 0, "{1}a": 0, "{1)\r\na": 0, "~{1}\r\n": 1,
		"{4294967295}\r\na": 0, "{4294967296}\r\na": 0, "{4294967297}\r\na": 0, "{18446744073709551617}\r\na": 0,
		"{1}\r\na{": 6, "{1}\r\na\r\n": 6, "{1}\r\na\"": 6, "\"a\"{1}\r\n": 3, "(\"a\" {1}\r\nb)\t": 12,
	} {
		if l, at := token.Tokens([]byte(s)); len(l) != 0 || at != want {
			t.Errorf("Tokens(%q) = %v, %d", s, l, at)
		}
		check(t, s)
	}
}

func TestTokensOfEachByte(t *testing.T) {
	kind := map[byte]string{' ': "10", '(': "20", ')': "30"}
	for n := range 256 {
		c := char(n)
		want := kind[byte(n)]
		if strings.Contains(words, c) {
			want = "40"
		}
		if l, at := token.Tokens([]byte(c)); kinds(l) != want || at != -1 && want != "" || at != 0 && want == "" {
			t.Errorf("Tokens of the byte %d: %v, %d", n, l, at)
		}
		for _, s := range []string{"a" + c, c + "a", "a" + c + "b", " " + c + " ", "(" + c + ")", c + c, "\"" + c, "\"" + c + "\"", "\"\\" + c + "\"", "\"a\"" + c, "{" + c + "1}\r\na", "{1" + c + "\r\na", "{1}" + c + "\na", "{1}\r" + c + "a", "{1}\r\n" + c, "{1}\r\na" + c, "{0}\r\n" + c} {
			check(t, s)
		}
	}
}

func TestTokensOfShortTexts(t *testing.T) {
	texts([]string{" ", "(", ")", "a", "\"", "\\", "{0}\r\n"}, 5, func(s string) { check(t, s) })
	texts([]string{"{", "1", "0", "}", "\r\n", "\r", "\n", "a"}, 5, func(s string) { check(t, s) })
	texts([]string{"{1}\r\n", "{2}\r\n", "{12}\r\n", "\"", "\t", "\xff", "b "}, 5, func(s string) { check(t, s) })
}

// A literal has at most as many bytes as a command can have.
func TestLiteralsOfManyBytes(t *testing.T) {
	for _, n := range []int{9, 10, 99, 100, 8191, 8192, 8193, most - 1, most, most + 1, most + 2, 1 << 17} {
		body := strings.Repeat("\r\n\"{1}\x00", n/7+1)[:n]
		head := "a SELECT {" + strconv.Itoa(n) + "}\r\n"
		for _, rest := range []string{"", " b", "\r\n", "{0}\r\n"} {
			check(t, head+body+rest)
		}
		check(t, head+body[1:])
		l, at := token.Tokens([]byte(head + body))
		if n <= most && (len(l) != 6 || l[4].Text != body || at != -1) || n > most && (len(l) != 0 || at != 9) {
			t.Errorf("a literal of %d bytes: %d tokens, %d", n, len(l), at)
		}
	}
}

func TestManyBytes(t *testing.T) {
	for _, unit := range []string{" ", "(", "a", "a ", "\"a\"", "\"\\\"\"", "{1}\r\n{", "a(", words, "a \"b\" {1}\r\n)"} {
		s := strings.Repeat(unit, 1<<17/len(unit))
		check(t, s)
		check(t, s+"\n")
		check(t, s+"\"")
	}
	check(t, "\""+strings.Repeat("a", 1<<20)+"\"")
	check(t, "\""+strings.Repeat("a", 1<<20))
	check(t, strings.Repeat("\"", 1<<18))
	check(t, strings.Repeat("\"", 1<<18+1))
	check(t, "{"+strings.Repeat("1", 1<<20)+"}\r\na")
}

// P6.2

func TestTag(t *testing.T) {
	for s, want := range map[string]string{
		"a NOOP":          "a",
		"a ":              "a",
		"a  ":             "a",
		"a  b":            "a",
		"ab c d":          "ab",
		"A]. ":            "A].",
		"]x] y":           "]x]",
		"A001 FETCH 1 (":  "A001",
		"1 2":             "1",
		"} }":             "}",
		"|~ \x00":         "|~",
		"a \xff":          "a",
		"a \r\n":          "a",
		"a \"":            "a",
		"a {1":            "a",
		tags + " NOOP":    tags,
		tags[1:] + "  {1": tags[1:],
	} {
		got, n, ok := token.Tag([]byte(s))
		if got != want || ok != (want != "") || ok && n != len(want)+1 || !ok && n != 0 {
			t.Errorf("Tag(%q) = %q, %d, %v", s, got, n, ok)
		}
	}
	long := strings.Repeat(tags, 1<<14)
	if got, n, ok := token.Tag([]byte(long + " ")); got != long || n != len(long)+1 || !ok {
		t.Errorf("Tag of a tag of %d bytes: %d, %v", len(long), n, ok)
	}
}

func TestNoTag(t *testing.T) {
	for _, s := range []string{
		"", "a", "abc", tags, // no space
		" ", " a", "  a b", " a b", // no byte
		"+ x", "* x", "% x", "\\ x", "( x", ") x", "{ x", "\" x", "\"a\" x", // a byte that is no tag byte
		"a+ x", "a* x", "a% x", "a\\ x", "a( x", "a) x", "a{ x", "a\" x", "a+b x", "+a x", "a(b) x",
		"a\t x", "a\tx", "a\tx y", "a\r\n", "a\r\n b", "a\n", "a\x00 b", "a\x00", "\x7f x", "a\x7f x", "\xff x", "a\xff x", "é x", "aé x", "a\u00a0x", "a\u00a0 x",
		"{1}\r\na ", "a{1}\r\nb ", strings.Repeat("a", 1<<20), strings.Repeat("a", 1<<20) + "+ ", strings.Repeat(" ", 1<<20),
	} {
		if got, n, ok := token.Tag([]byte(s)); got != "" || n != 0 || ok {
			t.Errorf("Tag(%.80q) = %q, %d, %v", s, got, n, ok)
		}
	}
	if got, n, ok := token.Tag(nil); got != "" || n != 0 || ok {
		t.Errorf("Tag(nil) = %q, %d, %v", got, n, ok)
	}
}

func TestTagOfEachByte(t *testing.T) {
	for n := range 256 {
		c := char(n)
		want := ""
		if strings.Contains(tags, c) {
			want = c
		}
		got, at, ok := token.Tag([]byte(c + " "))
		if got != want || ok != (want != "") || at != 2*len(want) {
			t.Errorf("Tag of the byte %d and a space: %q, %d, %v", n, got, at, ok)
		}
		for m := range 256 {
			for _, s := range []string{c + char(m), c + char(m) + " ", "a" + c + char(m), "a" + c + " " + char(m)} {
				checkTag(t, s)
			}
		}
	}
}

// P6.3

func TestJoin(t *testing.T) {
	for _, x := range []struct {
		want string
		l    []token.Token
	}{
		{"", nil},
		{"", []token.Token{{}}},
		{"", []token.Token{{Kind: token.End, Text: "x", At: 7}}},
		{" ", []token.Token{{Kind: token.Space}}},
		{"(", []token.Token{{Kind: token.Open}}},
		{")", []token.Token{{Kind: token.Close}}},
		{" ()", []token.Token{{Kind: token.Space, Text: "x"}, {Kind: token.Open, Text: "y"}, {Kind: token.Close, Text: "z"}}},
		{"ab", []token.Token{{Kind: token.Word, Text: "ab"}}},
		{"", []token.Token{{Kind: token.Word}}},
		{"a \"(\r\n\x00\xff{", []token.Token{{Kind: token.Word, Text: "a \"(\r\n\x00\xff{"}}},
		{"ab", []token.Token{{Kind: token.Word, Text: "a"}, {Kind: token.Word, Text: "b"}}},
		{`"ab"`, []token.Token{{Kind: token.Quoted, Text: "ab"}}},
		{`""`, []token.Token{{Kind: token.Quoted}}},
		{`"\"\\ ("`, []token.Token{{Kind: token.Quoted, Text: `"\ (`}}},
		{"\"\t\x7f\"", []token.Token{{Kind: token.Quoted, Text: "\t\x7f"}}},
		{"", []token.Token{{Kind: token.Quoted, Text: "\n"}}},
		{"", []token.Token{{Kind: token.Quoted, Text: "a\rb"}}},
		{"", []token.Token{{Kind: token.Quoted, Text: "\x00"}}},
		{"", []token.Token{{Kind: token.Quoted, Text: "é"}}},
		{"ab", []token.Token{{Kind: token.Word, Text: "a"}, {Kind: token.Quoted, Text: "\xff"}, {Kind: token.Word, Text: "b"}}},
		{"{0}\r\n", []token.Token{{Kind: token.Literal}}},
		{"{2}\r\nab", []token.Token{{Kind: token.Literal, Text: "ab"}}},
		{"{4}\r\n\r\n\x00\xff", []token.Token{{Kind: token.Literal, Text: "\r\n\x00\xff"}}},
		{"{2}\r\né{1}\r\nb", []token.Token{{Kind: token.Literal, Text: "é"}, {Kind: token.Literal, Text: "b"}}},
		{"ab", []token.Token{{Kind: token.Word, Text: "a", At: 9}, {Kind: token.End, At: 3}, {Kind: token.Word, Text: "b", At: -1}}},
		{"b a", []token.Token{{Kind: token.Word, Text: "b", At: 2}, {Kind: token.Space, At: 1}, {Kind: token.Word, Text: "a"}}},
	} {
		if got := string(token.Join(x.l...)); got != x.want {
			t.Errorf("Join(%v) = %q", x.l, got)
		}
	}
	if b := token.Join(); len(b) != 0 {
		t.Errorf("Join() = %q", b)
	}
}

// other returns numbers of no kind.
func other() []int {
	l := []int{math.MinInt, math.MinInt + 4, math.MinInt32, -256, -7, -6, -4, -1, 256, 260, 1 << 16, 1<<32 + 1, 1<<32 + 4, math.MaxInt32, math.MaxInt}
	for n := 7; n < 70; n++ {
		l = append(l, n)
	}
	return l
}

func TestJoinOfOtherKinds(t *testing.T) {
	for _, kind := range other() {
		if b := token.Join(token.Token{Kind: token.Open}, token.Token{Kind: kind, Text: "x", At: 1}, token.Token{Kind: token.Close}); string(b) != "()" {
			t.Errorf("Join with the kind %d: %q", kind, b)
		}
	}
}

func TestJoinOfManyBytes(t *testing.T) {
	text := strings.Repeat("a\"", most)
	b := string(token.Join(token.Token{Kind: token.Literal, Text: text}, token.Token{Kind: token.Quoted, Text: text}, token.Token{Kind: token.Word, Text: text}))
	if b != "{131072}\r\n"+text+"\""+strings.Repeat("a\\\"", most)+"\""+text {
		t.Errorf("Join of long texts: %d bytes", len(b))
	}
	l := slices.Repeat([]token.Token{{Kind: token.Word, Text: "a"}, {Kind: token.Space}}, 1<<18)
	if got := string(token.Join(l...)); got != strings.Repeat("a ", 1<<18) {
		t.Errorf("Join of many tokens: %d bytes", len(got))
	}
}

func TestName(t *testing.T) {
	for kind, want := range []string{"end", "space", "open", "close", "word", "quoted", "literal"} {
		if got := token.Name(kind); got != want {
			t.Errorf("Name(%d) = %q", kind, got)
		}
	}
	for _, kind := range other() {
		if got := token.Name(kind); got != "" {
			t.Errorf("Name(%d) = %q", kind, got)
		}
	}
}

// P6.4

// The tokens of joined tokens are these, with their offsets, unless two words follow each other.
func TestTokensOfJoinedTokens(t *testing.T) {
	parts := []token.Token{
		{Kind: token.Space},
		{Kind: token.Open},
		{Kind: token.Close},
		{Kind: token.Word, Text: "a"},
		{Kind: token.Word, Text: words},
		{Kind: token.Quoted},
		{Kind: token.Quoted, Text: "a\"\\ (){\x7f\t"},
		{Kind: token.Literal},
		{Kind: token.Literal, Text: "\"\r\n\x00\xff{1}"},
		{Kind: token.Literal, Text: strings.Repeat("a", 8200)},
	}
	var digits []string
	for i := range parts {
		digits = append(digits, strconv.Itoa(i))
	}
	texts(digits, 3, func(s string) {
		var want []token.Token
		b, last := "", token.End
		for i := range len(s) {
			p := parts[s[i]-'0']
			if p.Kind == token.Word && last == token.Word {
				return
			}
			p.At, last = len(b), p.Kind
			b += string(token.Join(p))
			want = append(want, p)
		}
		want = append(want, token.Token{At: len(b)})
		if got, at := token.Tokens([]byte(b)); !slices.Equal(got, want) || at != -1 {
			t.Errorf("Tokens(%.80q) = %s, %d", b, short(got), at)
		}
		if got := string(token.Join(want...)); got != b {
			t.Errorf("Join(%s) = %.80q, want %.80q", short(want), got, b)
		}
	})
}

// P1 and P2

func TestBytesBeyondTheLengthAreNotRead(t *testing.T) {
	const text = "a (\"b\" {3}\r\nc d)"
	b := []byte(text)
	for n := range len(b) + 1 {
		want, wantAt := wanted(text[:n])
		if l, at := token.Tokens(b[:n]); !slices.Equal(l, want) || at != wantAt {
			t.Errorf("Tokens of %d bytes: %v, %d", n, l, at)
		}
	}
	if _, _, ok := token.Tag(b[:1]); ok {
		t.Error("Tag has read a space beyond the length")
	}
	l := []token.Token{{Kind: token.Word, Text: "a"}, {Kind: token.Word, Text: "b"}}
	if got := string(token.Join(l[:1]...)); got != "a" || l[1].Text != "b" {
		t.Errorf("Join = %q", got)
	}
	if string(b) != text {
		t.Errorf("the bytes are changed: %q", b)
	}
}

func TestMemory(t *testing.T) {
	const text = "a (\"b\" {3}\r\nc d)"
	b := []byte(text)
	l, _ := token.Tokens(b)
	again, _ := token.Tokens(b)
	name, _, _ := token.Tag(b)
	clear(b)
	want, _ := wanted(text)
	if !slices.Equal(l, want) || name != "a" {
		t.Errorf("a change of an argument changes a result: %v, %q", l, name)
	}
	joined, other := token.Join(l...), token.Join(l...)
	if !slices.Equal(l, want) {
		t.Errorf("Join has modified its argument: %v", l)
	}
	clear(joined[:cap(joined)])
	clear(l[:cap(l)])
	if string(other) != text || !slices.Equal(again, want) {
		t.Errorf("a result shares memory with another one: %q, %v", other, again)
	}
}

func TestConcurrentCalls(t *testing.T) {
	var all sync.WaitGroup
	for range 8 {
		all.Go(func() {
			texts([]string{"a ", "(", "\"b\"", "{1}\r\n", "\t"}, 4, func(s string) { check(t, s) })
			for kind := range 7 {
				if token.Name(kind) == "" {
					t.Error("a concurrent call has another result")
				}
			}
		})
	}
	all.Wait()
}
