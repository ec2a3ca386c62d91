package reply_test

import (
	"fmt"
	"math"
	"regexp"
	"slices"
	"strconv"
	"strings"
	"sync"
	"testing"

	"cubbyhole/api"
	"cubbyhole/reply"
	"cubbyhole/resp"
)

type res = api.Response

// mostLiteral is the greatest number of bytes of a body.
const mostLiteral = 65536

// allFlags is the list of all flags.
const allFlags = `(\Answered \Flagged \Deleted \Seen \Draft)`

// The forms of responses other than those of a FETCH.
var (
	countForm  = regexp.MustCompile(`^\* (\d+) (EXISTS|RECENT|EXPUNGE)\r\n`)
	textForm   = regexp.MustCompile("^(\\* OK|\\* BYE|\\* BAD|\\+) ([\x01-\x09\x0b\x0c\x0e-\x7f]+)\r\n")
	taggedForm = regexp.MustCompile("^([!#$&',-\\[\\]-z|}~]+) (OK|NO|BAD) ([\x01-\x09\x0b\x0c\x0e-\x7f]+)\r\n")
)

// fetchForms are the forms of a FETCH by their items, up to the body.
var fetchForms = func() map[int]*regexp.Regexp {
	m := map[int]*regexp.Regexp{}
	for items := 1; items < 24; items++ {
		var parts []string
		for item, part := range []string{1: `FLAGS (?<flags>\([^)]*\))`, 2: `UID (?<uid>\d+)`, 4: `RFC822\.SIZE (?<size>\d+)`, 16: `BODY\[\] \{(?<length>\d+)\}\r\n`} {
			if part != "" && items&item != 0 {
				parts = append(parts, part)
			}
		}
		if items&8 == 0 {
			m[items] = regexp.MustCompile(`^\* (?<n>\d+) FETCH \(` + strings.Join(parts, " "))
		}
	}
	return m
}()

// flagsOf returns the flags of the lists that a response may have.
var flagsOf = func() map[string]api.Flags {
	m := map[string]api.Flags{}
	for f := range api.Flags(32) {
		var l []string
		for i, name := range strings.Fields(strings.Trim(allFlags, "()")) {
			if f>>i&1 == 1 {
				l = append(l, name)
			}
		}
		m["("+strings.Join(l, " ")+")"] = f
	}
	return m
}()

// number returns the number that a string is the decimal form of.
func number(s string) (uint32, bool) {
	n, err := strconv.ParseUint(s, 10, 64)
	return uint32(n), err == nil && n <= math.MaxUint32 && strconv.FormatUint(n, 10) == s
}

// wanted returns what Parse is to return for the bytes of a string and the offset 0.
func wanted(s string) (res, int, bool) {
	if head := "* FLAGS " + allFlags + "\r\n"; strings.HasPrefix(s, head) {
		return res{Kind: 5}, len(head), true
	}
	if m := countForm.FindStringSubmatch(s); m != nil {
		if n, ok := number(m[1]); ok {
			return res{Kind: map[string]int{"EXISTS": 1, "RECENT": 2, "EXPUNGE": 3}[m[2]], N: n}, len(m[0]), true
		}
		return res{}, 0, false
	}
	if m := textForm.FindStringSubmatch(s); m != nil {
		return res{Kind: map[string]int{"* OK": 6, "* BYE": 7, "* BAD": 8, "+": 10}[m[1]], Text: m[2]}, len(m[0]), true
	}
	if m := taggedForm.FindStringSubmatch(s); m != nil {
		return res{Kind: 9, Tag: m[1], Status: map[string]int{"OK": 0, "NO": 1, "BAD": 2}[m[2]], Text: m[3]}, len(m[0]), true
	}
	return wantedFetch(s)
}

// wantedFetch is the part of wanted for a FETCH.
func wantedFetch(s string) (res, int, bool) {
	for items, form := range fetchForms {
		m := form.FindStringSubmatch(s)
		if m == nil {
			continue
		}
		good := true
		value := func(name string) uint32 {
			i := form.SubexpIndex(name)
			if i < 0 {
				return 0
			}
			n, ok := number(m[i])
			good = good && ok
			return n
		}
		r := res{Kind: 4, N: value("n"), Items: items, UID: value("uid"), Size: value("size")}
		if i := form.SubexpIndex("flags"); i > 0 {
			f, ok := flagsOf[m[i]]
			r.Flags, good = f, good && ok
		}
		rest, length := s[len(m[0]):], int(value("length"))
		// A form with fewer items also matches, but no bracket follows it.
		if good && length <= mostLiteral && length <= len(rest) && strings.HasPrefix(rest[length:], ")\r\n") {
			r.Body = []byte(rest[:length])
			return r, len(m[0]) + length + 3, true
		}
	}
	return res{}, 0, false
}

// fields returns all fields of a response, so that equal ones have the same.
func fields(r res) string {
	return fmt.Sprintf("%d %d %q %d %q %d %d %d %d %q", r.Kind, r.N, r.Tag, r.Status, r.Text, r.Items, r.Flags, r.UID, r.Size, r.Body)
}

// short returns as much of a response as a message shows.
func short(r res) string { return fmt.Sprintf("%.200s", fields(r)) }

// list returns all fields of some responses.
func list(l []res) string {
	var parts []string
	for _, r := range l {
		parts = append(parts, fields(r))
	}
	return strings.Join(parts, "\n")
}

// expect compares what Parse returns for some bytes, alone and in the midst of others, with a response, and the offset after it with another.
func expect(t *testing.T, s string, want res, n int) {
	t.Helper()
	for _, front := range []string{"", "x", "* 1 EXISTS\r\n", "\x00\r\n"} {
		r, after, ok := reply.Parse([]byte(front+s), len(front))
		if fields(r) != fields(want) || after != len(front)+n || !ok {
			t.Errorf("Parse(%.200q, %d) = %s, %d, %v, want %s, %d", front+s, len(front), short(r), after, ok, short(want), len(front)+n)
		}
	}
}

// refuse checks that there is no response at an offset of some bytes.
func refuse(t *testing.T, s string, at int) {
	t.Helper()
	if r, after, ok := reply.Parse([]byte(s), at); fields(r) != fields(res{}) || after != 0 || ok {
		t.Errorf("Parse(%.200q, %d) = %s, %d, %v", s, at, short(r), after, ok)
	}
}

// check compares what Parse returns for some bytes with what it is to return, and returns whether this is a response.
func check(t *testing.T, s string) bool {
	t.Helper()
	want, n, ok := wanted(s)
	if ok {
		expect(t, s, want, n)
	} else {
		refuse(t, s, 0)
	}
	return ok
}

// some returns responses of all kinds.
func some() []res {
	return []res{
		{Kind: 5},
		{Kind: 1, N: 3},
		{Kind: 2},
		{Kind: 6, Text: "[UIDNEXT 4] x"},
		{Kind: 4, N: 1, Items: 23, Flags: 9, UID: 2, Size: 4, Body: []byte("b\r\n)")},
		{Kind: 10, Text: "go"},
		{Kind: 4, N: 2, Items: 16},
		{Kind: 3, N: 2},
		{Kind: 8, Text: "x y"},
		{Kind: 9, Tag: "a", Status: 1, Text: "no"},
		{Kind: 4, N: 20, Items: 5, Size: 30},
		{Kind: 7, Text: "bye"},
		{Kind: 9, Tag: "b", Text: "OK"},
		{Kind: 4, N: 7, Items: 18, UID: 12, Body: []byte("* 1 EXISTS\r\na OK x\r\n")},
		{Kind: 9, Tag: "OK", Status: 2, Text: " OK "},
	}
}

// bad returns strings with which no response begins.
func bad() []string {
	return []string{
		"", "*", "* ", "+", "+ ", "a", "a ", "\r", "\n", "\r\n", "\r\n* 1 EXISTS\r\n", " * 1 EXISTS\r\n", "** 1 EXISTS\r\n",
		"* 1\r\n", "* 1 \r\n", "* EXISTS\r\n", "*  EXISTS\r\n", "* 1EXISTS\r\n", "*1 EXISTS\r\n", "* 1 EXISTS", "* 1 EXISTS\r", "* 1 EXISTS\n", "* 1 EXISTS\n\r", "* 1 EXISTS\r\r\n", "* 1 EXISTS \r\n", "* 1 EXISTSX\r\n", "* 1 EXIST\r\n",
		"* 01 EXISTS\r\n", "* 00 EXISTS\r\n", "* -1 EXISTS\r\n", "* +1 EXISTS\r\n", "* 1_0 EXISTS\r\n", "* 0x1 EXISTS\r\n", "* 4294967296 RECENT\r\n", "* 18446744073709551616 RECENT\r\n", "* 18446744073709551617 EXPUNGE\r\n",
		"* 1  EXISTS\r\n", "*  1 EXISTS\r\n", "*\t1 EXISTS\r\n", "* 1 exists\r\n", "* 1 Recent\r\n", "* 1 EXPUNGED\r\n", "* 1 SEARCH\r\n", "* LIST x\r\n", "* SEARCH 1\r\n", "* CAPABILITY x\r\n",
		"* FLAGS\r\n", "* FLAGS ()\r\n", "* FLAGS (\\Seen)\r\n", `* FLAGS (\Answered \Flagged \Deleted \Seen)` + "\r\n", `* FLAGS (\Answered \Flagged \Deleted \Draft \Seen)` + "\r\n", `* FLAGS (\answered \flagged \deleted \seen \draft)` + "\r\n", "* FLAGS " + allFlags, "* FLAGS " + allFlags + " \r\n", "* FLAGS  " + allFlags + "\r\n", "* flags " + allFlags + "\r\n", "* 1 FLAGS " + allFlags + "\r\n",
		"* OK\r\n", "* OK \r\n", "* OKx\r\n", "* ok x\r\n", "* OK x", "* OK x\r", "* OK x\n", "* OK x\ry\r\n", "* OK x\ny\r\n", "* OK x\x00\r\n", "* OK \x80\r\n", "* OK x\xff\r\n", "* BYE\r\n", "* BYE \r\n", "* bye x\r\n", "* BAD\r\n", "* BAD \r\n", "* Bad x\r\n", "* NO x\r\n", "* PREAUTH x\r\n",
		"+\r\n", "+ \r\n", "+x\r\n", "+ x", "+ x\r", "+ x\n", "++ x\r\n", "+ x\x00\r\n", "+ \xff\r\n",
		"a\r\n", "a OK\r\n", "a OK \r\n", "a  OK x\r\n", "a\tOK x\r\n", "a ok x\r\n", "a Ok x\r\n", "a OK x", "a OK x\r", "a OK x\n", "a OKx\r\n", "a BYE x\r\n", "a YES x\r\n", "a 1 x\r\n", "a NO\r\n", "a NO \r\n", "a BAD\r\n", "a BAD \r\n", "a bad x\r\n", "a OK x\x00\r\n", "a OK \x80\r\n",
		" OK x\r\n", "OK x\r\n", "NO x\r\n", "a+ OK x\r\n", "+a OK x\r\n", "+ OK x", "*a OK x\r\n", "a* OK x\r\n", "a\" OK x\r\n", "(a OK x\r\n", "a) OK x\r\n", "a{ OK x\r\n", "a% OK x\r\n", "a\\ OK x\r\n", "\x7f OK x\r\n", "\xe9 OK x\r\n", "\x00 OK x\r\n",
		"* 1 FETCH\r\n", "* 1 FETCH \r\n", "* 1 FETCH ()\r\n", "* 1 FETCH UID 1\r\n", "* 1 FETCH (UID 1\r\n", "* 1 FETCH UID 1)\r\n", "* 1 FETCH(UID 1)\r\n", "* 1 FETCH  (UID 1)\r\n", "* 1 FETCH ( UID 1)\r\n", "* 1 FETCH (UID 1 )\r\n", "* 1 FETCH ( )\r\n", "* 1 FETCH (UID 1) \r\n", "* 1 FETCH (UID 1)", "* 1 FETCH (UID 1)\r", "* 1 FETCH (UID 1)\n", "* 1 FETCH (UID 1))\r\n", "* 1 FETCH ((UID 1))\r\n", "* 1 fetch (UID 1)\r\n", "* FETCH (UID 1)\r\n", "* 01 FETCH (UID 1)\r\n", "* 4294967296 FETCH (UID 1)\r\n",
		"* 1 FETCH (UID)\r\n", "* 1 FETCH (UID )\r\n", "* 1 FETCH (UID x)\r\n", "* 1 FETCH (UID  1)\r\n", "* 1 FETCH (UID1)\r\n", "* 1 FETCH (UID 01)\r\n", "* 1 FETCH (UID 4294967296)\r\n", "* 1 FETCH (uid 1)\r\n", "* 1 FETCH (UID 1 UID 1)\r\n", "* 1 FETCH (UID 1 FLAGS ())\r\n", "* 1 FETCH (RFC822.SIZE 1 UID 1)\r\n", "* 1 FETCH (UID 1  RFC822.SIZE 1)\r\n", "* 1 FETCH (UID 1RFC822.SIZE 1)\r\n", "* 1 FETCH (X 1)\r\n", "* 1 FETCH (UID 1 X 1)\r\n", "* 1 FETCH (X 1 UID 1)\r\n",
		"* 1 FETCH (RFC822.SIZE)\r\n", "* 1 FETCH (RFC822.SIZE -1)\r\n", "* 1 FETCH (RFC822.SIZE 00)\r\n", "* 1 FETCH (RFC822.SIZE 4294967296)\r\n", "* 1 FETCH (rfc822.size 1)\r\n", "* 1 FETCH (RFC822XSIZE 1)\r\n", "* 1 FETCH (SIZE 1)\r\n", "* 1 FETCH (RFC822.SIZE 1 RFC822.SIZE 1)\r\n",
		"* 1 FETCH (FLAGS)\r\n", "* 1 FETCH (FLAGS )\r\n", "* 1 FETCH (FLAGS \\Seen)\r\n", "* 1 FETCH (FLAGS()\r\n", "* 1 FETCH (FLAGS())\r\n", "* 1 FETCH (FLAGS ()\r\n", "* 1 FETCH (FLAGS (\r\n", "* 1 FETCH (FLAGS (\\Seen\r\n", "* 1 FETCH (FLAGS ( ))\r\n", "* 1 FETCH (FLAGS (\\seen))\r\n", "* 1 FETCH (FLAGS (\\SEEN))\r\n", "* 1 FETCH (FLAGS (Seen))\r\n", "* 1 FETCH (FLAGS (\\Seen \\Answered))\r\n", "* 1 FETCH (FLAGS (\\Seen \\Seen))\r\n", "* 1 FETCH (FLAGS (\\Flagged  \\Seen))\r\n", "* 1 FETCH (FLAGS ( \\Seen))\r\n", "* 1 FETCH (FLAGS (\\Seen ))\r\n", "* 1 FETCH (FLAGS (\\Recent))\r\n", "* 1 FETCH (FLAGS () FLAGS ())\r\n", "* 1 FETCH (FLAGS ()UID 1)\r\n", "* 1 FETCH (FLAGS ()  UID 1)\r\n", "* 1 FETCH (flags ())\r\n", "* 1 FETCH (FLAGS (()))\r\n",
		"* 1 FETCH (BODY[])\r\n", "* 1 FETCH (BODY[] )\r\n", "* 1 FETCH (BODY[] x)\r\n", "* 1 FETCH (BODY[] \"x\")\r\n", "* 1 FETCH (BODY[] NIL)\r\n", "* 1 FETCH (BODY[] {0}\r\n", "* 1 FETCH (BODY[] {0})\r\n", "* 1 FETCH (BODY[] {0}\n)\r\n", "* 1 FETCH (BODY[] {0}\r)\r\n", "* 1 FETCH (BODY[] {}\r\n)\r\n", "* 1 FETCH (BODY[] {00}\r\n)\r\n", "* 1 FETCH (BODY[] {01}\r\nx)\r\n", "* 1 FETCH (BODY[] {+1}\r\nx)\r\n", "* 1 FETCH (BODY[] {1+}\r\nx)\r\n", "* 1 FETCH (BODY[] {3}\r\nab)\r\n", "* 1 FETCH (BODY[] {1}\r\nab)\r\n", "* 1 FETCH (BODY[] {5}\r\nab)\r\n", "* 1 FETCH (BODY[] {6}\r\nab)\r\n", "* 1 FETCH (BODY[] {4294967295}\r\nab)\r\n", "* 1 FETCH (BODY[] {4294967296}\r\n)\r\n", "* 1 FETCH (BODY[]{0}\r\n)\r\n", "* 1 FETCH (BODY[]  {0}\r\n)\r\n", "* 1 FETCH (BODY.PEEK[] {0}\r\n)\r\n", "* 1 FETCH (body[] {0}\r\n)\r\n", "* 1 FETCH (BODY {0}\r\n)\r\n", "* 1 FETCH (BODY[] {0}\r\n UID 1)\r\n", "* 1 FETCH (BODY[] {0}\r\n BODY[] {0}\r\n)\r\n", "* 1 FETCH (BODY[] {0}\r\n )\r\n", "* 1 FETCH (UID 1BODY[] {0}\r\n)\r\n",
	}
}

// P10.1

func TestParse(t *testing.T) {
	for s, want := range map[string]res{
		"* 0 EXISTS":                         {Kind: api.Exists},
		"* 12 EXISTS":                        {Kind: api.Exists, N: 12},
		"* 1 RECENT":                         {Kind: api.Recent, N: 1},
		"* 4294967295 EXPUNGE":               {Kind: api.Expunged, N: math.MaxUint32},
		"* FLAGS " + allFlags:                {Kind: api.FlagList},
		"* OK x":                             {Kind: api.Info, Text: "x"},
		"* OK  ":                             {Kind: api.Info, Text: " "},
		"* OK [UIDVALIDITY 1] y":             {Kind: api.Info, Text: "[UIDVALIDITY 1] y"},
		"* OK 1 EXISTS":                      {Kind: api.Info, Text: "1 EXISTS"},
		"* BYE good bye":                     {Kind: api.Bye, Text: "good bye"},
		"* BAD BAD":                          {Kind: api.BadLine, Text: "BAD"},
		"+ +":                                {Kind: api.Continue, Text: "+"},
		"+ OK x":                             {Kind: api.Continue, Text: "OK x"},
		"+  OK x":                            {Kind: api.Continue, Text: " OK x"},
		"a1 OK done":                         {Kind: api.Tagged, Tag: "a1", Text: "done"},
		"] NO \x01\t\x7f":                    {Kind: api.Tagged, Tag: "]", Status: api.StatusNO, Text: "\x01\t\x7f"},
		"OK BAD  OK ":                        {Kind: api.Tagged, Tag: "OK", Status: api.StatusBAD, Text: " OK "},
		"NO OK BAD":                          {Kind: api.Tagged, Tag: "NO", Text: "BAD"},
		"1 OK 2":                             {Kind: api.Tagged, Tag: "1", Text: "2"},
		"FLAGS NO (":                         {Kind: api.Tagged, Tag: "FLAGS", Status: api.StatusNO, Text: "("},
		"* 0 FETCH (FLAGS ())":               {Kind: api.Fetched, Items: api.ItemFlags},
		"* 3 FETCH (FLAGS " + allFlags + ")": {Kind: api.Fetched, Items: api.ItemFlags, N: 3, Flags: api.AllFlags},
		"* 3 FETCH (UID 0)":                  {Kind: api.Fetched, Items: api.ItemUID, N: 3},
		"* 3 FETCH (UID 4294967295)":         {Kind: api.Fetched, Items: api.ItemUID, N: 3, UID: math.MaxUint32},
		"* 3 FETCH (RFC822.SIZE 0)":          {Kind: api.Fetched, Items: api.ItemSize, N: 3},
		"* 3 FETCH (RFC822.SIZE 4294967295)": {Kind: api.Fetched, Items: api.ItemSize, N: 3, Size: math.MaxUint32},
		"* 3 FETCH (BODY[] {0}\r\n)":         {Kind: api.Fetched, Items: api.ItemBody, N: 3},
		"* 3 FETCH (BODY[] {6}\r\na)\r\n\x00\xff)":                {Kind: api.Fetched, Items: api.ItemBody, N: 3, Body: []byte("a)\r\n\x00\xff")},
		"* 2 FETCH (FLAGS (\\Seen) UID 7)":                        {Kind: api.Fetched, Items: 3, N: 2, Flags: api.Seen, UID: 7},
		"* 1 FETCH (FLAGS (\\Flagged) RFC822.SIZE 0)":             {Kind: api.Fetched, Items: 5, N: 1, Flags: api.Flagged},
		"* 1 FETCH (FLAGS () BODY[] {1}\r\n))":                    {Kind: api.Fetched, Items: 17, N: 1, Body: []byte(")")},
		"* 1 FETCH (UID 5 BODY[] {1}\r\nx)":                       {Kind: api.Fetched, Items: 18, N: 1, UID: 5, Body: []byte("x")},
		"* 1 FETCH (UID 5 RFC822.SIZE 6)":                         {Kind: api.Fetched, Items: 6, N: 1, UID: 5, Size: 6},
		"* 1 FETCH (RFC822.SIZE 9 BODY[] {3}\r\n{1})":             {Kind: api.Fetched, Items: 20, N: 1, Size: 9, Body: []byte("{1}")},
		"* 9 FETCH (FLAGS () UID 1 RFC822.SIZE 2 BODY[] {0}\r\n)": {Kind: api.Fetched, Items: 23, N: 9, UID: 1, Size: 2},
	} {
		// The response ends at its own end, whatever follows.
		for _, follows := range []string{"", "\r\n", "\n", " ", "x", ")", s + "\r\n", "\x00\xff"} {
			expect(t, s+"\r\n"+follows, want, len(s)+2)
		}
		if !check(t, s+"\r\n") {
			t.Errorf("%q is not tried", s)
		}
	}
}

func TestNoResponse(t *testing.T) {
	for _, s := range bad() {
		refuse(t, s, 0)
		if check(t, s) {
			t.Errorf("%q is tried as a response", s)
		}
		for _, front := range []string{"x", "* 1 EXISTS\r\n"} {
			refuse(t, front+s, len(front))
		}
		if s != "" {
			refuse(t, s+"x", 0)
		}
	}
}

func TestOffsets(t *testing.T) {
	s := "* 12 EXISTS\r\na OK x\r\n"
	for _, at := range []int{math.MinInt, math.MinInt32, -len(s), -2, -1, len(s), len(s) + 1, math.MaxInt32, math.MaxInt - 1, math.MaxInt} {
		refuse(t, s, at)
		refuse(t, "", at)
		refuse(t, "x", at)
	}
	refuse(t, "", 0)
	if r, n, ok := reply.Parse(nil, 0); fields(r) != fields(res{}) || n != 0 || ok {
		t.Errorf("Parse(nil, 0) = %s, %d, %v", short(r), n, ok)
	}
	for at := range s {
		switch at {
		case 0:
			expect(t, s, res{Kind: 1, N: 12}, 13)
		case 13:
			expect(t, s[at:], res{Kind: 9, Tag: "a", Text: "x"}, 8)
			if r, n, ok := reply.Parse([]byte(s), at); r.Tag != "a" || n != len(s) || !ok {
				t.Errorf("Parse(%q, %d) = %s, %d, %v", s, at, short(r), n, ok)
			}
		default:
			refuse(t, s, at)
		}
	}
}

// The bytes in front of the offset do not matter, even if they belong to another response.
func TestOffsetsInTheMidstOfAResponse(t *testing.T) {
	s := "* 1 FETCH (BODY[] {12}\r\n* 2 RECENT\r\n)\r\n"
	at := strings.Index(s, "* 2")
	if r, n, ok := reply.Parse([]byte(s), at); fields(r) != fields(res{Kind: 2, N: 2}) || n != at+12 || !ok {
		t.Errorf("Parse(%q, %d) = %s, %d, %v", s, at, short(r), n, ok)
	}
	if r, n, ok := reply.Parse([]byte("b1 OK 2 OK 3\r\n"), 6); fields(r) != fields(res{Kind: 9, Tag: "2", Text: "3"}) || n != 14 || !ok {
		t.Errorf("Parse = %s, %d, %v", short(r), n, ok)
	}
}

func TestNumbers(t *testing.T) {
	for _, n := range []string{"0", "1", "9", "10", "00", "01", "09", "010", "65536", "4294967294", "4294967295", "4294967296", "4294967300", "9999999999", "10000000000", "04294967295", "18446744073709551615", "18446744073709551616", "18446744073709551617", "36893488147419103233", "-0", "-1", "+1", "1.0", "1e1", "1_0", "0x1", "0b1", "0o1", "", " ", " 1", "1 ", "*", "x", "\xd9\xa1", "\x00", strings.Repeat("0", 5000), strings.Repeat("9", 5000)} {
		_, decimal := number(n)
		for _, form := range []string{"* %s EXISTS", "* %s RECENT", "* %s EXPUNGE", "* %s FETCH (UID 1)", "* 1 FETCH (UID %s)", "* 1 FETCH (RFC822.SIZE %s)", "* 1 FETCH (UID %s RFC822.SIZE 1)", "* 1 FETCH (FLAGS () UID %s BODY[] {1}\r\nx)"} {
			if ok := check(t, fmt.Sprintf(form, n)+"\r\n"); ok != decimal {
				t.Errorf("the number %.30q in %q is tried as one: %v", n, form, ok)
			}
		}
	}
}

// Each byte is tried in a tag, in a text and in a body, and in the place of each byte of a form.
func TestEachByte(t *testing.T) {
	for c := range 256 {
		one := string([]byte{byte(c)})
		for _, s := range []string{one, one + "a", "a" + one, "a" + one + "a", one + one} {
			for _, form := range []string{"* OK ", "* BYE ", "* BAD ", "+ ", "a OK ", "b NO ", "] BAD "} {
				check(t, form+s+"\r\n")
			}
			check(t, s+" OK x\r\n")
			expect(t, fmt.Sprintf("* 5 FETCH (BODY[] {%d}\r\n%s)\r\n", len(s), s), res{Kind: 4, N: 5, Items: 16, Body: []byte(s)}, 26+len(s))
		}
	}
}

func TestChangesOfForms(t *testing.T) {
	count := 0
	try := func(s string) {
		if check(t, s) {
			count++
		}
	}
	for _, r := range some() {
		b, _ := resp.Print(r)
		s := string(b)
		try(s)
		for i := range s {
			try(s[:i] + s[i+1:])
			try(s[:i+1] + s[i:])
			for c := range 256 {
				one := string([]byte{byte(c)})
				try(s[:i] + one + s[i+1:])
				if strings.Contains(" ()\\[]{}\r\n+*0159aAzZ\x00\xff", one) {
					try(s[:i] + one + s[i:])
				}
			}
			if i > 0 {
				try(s[:i-1] + s[i:i+1] + s[i-1:i] + s[i+1:])
			}
		}
	}
	// Texts, tags and bodies may have other bytes.
	if count < 10000 {
		t.Errorf("only %d changes are tried that leave a response", count)
	}
}

// A response is there only with all of its bytes.
func TestBeginningsOfForms(t *testing.T) {
	for _, r := range some() {
		b, _ := resp.Print(r)
		for n := range b {
			refuse(t, string(b[:n]), 0)
		}
		expect(t, string(b), r, len(b))
	}
}

func TestLetters(t *testing.T) {
	for _, r := range some() {
		b, _ := resp.Print(r)
		if r.Kind == 9 || r.Kind == 10 {
			continue
		}
		s := string(b)
		if lower := strings.ToLower(s); lower != s {
			refuse(t, lower, 0)
		}
		if r.Kind != 1 && r.Kind != 2 && r.Kind != 3 {
			check(t, strings.ToUpper(s))
		}
	}
}

func TestEveryListOfFlags(t *testing.T) {
	for s, f := range flagsOf {
		expect(t, "* 1 FETCH (FLAGS "+s+")\r\n", res{Kind: 4, N: 1, Items: 1, Flags: f}, len(s)+20)
		expect(t, "* 1 FETCH (FLAGS "+s+" UID 2)\r\n", res{Kind: 4, N: 1, Items: 3, Flags: f, UID: 2}, len(s)+26)
	}
	names := append(strings.Fields(strings.Trim(allFlags, "()")), `\seen`, `\`, "")
	for _, a := range names {
		for _, b := range names {
			check(t, "* 1 FETCH (FLAGS ("+a+" "+b+"))\r\n")
			check(t, "* 1 FETCH (FLAGS ("+a+" "+b+") UID 2)\r\n")
			for _, c := range names {
				check(t, "* 1 FETCH (FLAGS ("+a+" "+b+" "+c+"))\r\n")
			}
		}
	}
}

// Each row of up to four items is tried; those in order, each at most once, are those of a response.
func TestRowsOfItems(t *testing.T) {
	items := []string{"FLAGS (\\Seen)", "UID 7", "RFC822.SIZE 8", "BODY[] {3}\r\n) x", "BODY.PEEK[] {0}\r\n", ""}
	count := 0
	var grow func(row []string)
	grow = func(row []string) {
		for _, between := range []string{" ", "", "  "} {
			if check(t, "* 6 FETCH ("+strings.Join(row, between)+")\r\n") && between == " " {
				count++
			}
		}
		if len(row) < 4 {
			for _, item := range items {
				grow(append(slices.Clone(row), item))
			}
		}
	}
	grow(nil)
	if count != 15 {
		t.Errorf("%d rows are tried as those of a response, want 15", count)
	}
}

// A text and a tag may have any number of bytes, a body as many as a literal.
func TestLongParts(t *testing.T) {
	for _, n := range []int{1, 9, 10, 8191, 8192, 8193, mostLiteral - 1, mostLiteral, mostLiteral + 1, mostLiteral * 2} {
		long := strings.Repeat("x", n)
		for kind, form := range map[int]string{6: "* OK ", 7: "* BYE ", 8: "* BAD ", 10: "+ "} {
			expect(t, form+long+"\r\n", res{Kind: kind, Text: long}, len(form)+n+2)
			refuse(t, form+long+"\n", 0)
			refuse(t, form+long, 0)
		}
		expect(t, long+" NO "+long+"\r\n", res{Kind: 9, Tag: long, Status: 1, Text: long}, 2*n+6)
		refuse(t, long+"+ NO "+long+"\r\n", 0)
		for _, part := range []string{"x", "\r\n", "\x00\xff", "* 1 EXISTS\r\n", ")\r\n"} {
			body := strings.Repeat(part, n)[:n]
			s := fmt.Sprintf("* 1 FETCH (BODY[] {%d}\r\n%s)\r\n", n, body)
			if n <= mostLiteral {
				expect(t, s, res{Kind: 4, N: 1, Items: 16, Body: []byte(body)}, len(s))
			} else {
				refuse(t, s, 0)
			}
			refuse(t, s[:len(s)-4], 0)
		}
	}
}

// P10.2

// expectAll compares what All returns.
func expectAll(t *testing.T, s string, want []res, n int) {
	t.Helper()
	if l, after := reply.All([]byte(s)); list(l) != list(want) || len(l) != len(want) || after != n {
		t.Errorf("All(%.200q) = %.300s, %d, want %.300s, %d", s, list(l), after, list(want), n)
	}
}

func TestExample(t *testing.T) {
	s := "* 3 EXISTS\r\na OK x\r\nb"
	expectAll(t, s, []res{{Kind: 1, N: 3}, {Kind: 9, Tag: "a", Text: "x"}}, 20)
	expect(t, s, res{Kind: 1, N: 3}, 12)
	refuse(t, s, 20)
}

func TestAllStopsAtWhatIsNoResponse(t *testing.T) {
	forms, after := "", []int{0}
	for _, r := range some() {
		b, _ := resp.Print(r)
		forms += string(b)
		after = append(after, len(forms))
	}
	for n, end := range after {
		expectAll(t, forms[:end], some()[:n], end)
		for _, s := range bad() {
			expectAll(t, forms[:end]+s, some()[:n], end)
			if s != "" {
				// No byte of a response, so that it does not complete one.
				expectAll(t, forms[:end]+s+"\x00\r\n"+forms, some()[:n], end)
			}
		}
	}
}

func TestAllOfEachBeginning(t *testing.T) {
	forms := string(resp.All(some()...))
	n, end := 0, 0
	for i := range len(forms) + 1 {
		if n < len(some()) && i == end+len(resp.All(some()[n])) {
			n, end = n+1, i
		}
		expectAll(t, forms[:i], some()[:n], end)
	}
	if n != len(some()) {
		t.Errorf("only %d responses are tried", n)
	}
}

func TestAllOfNothing(t *testing.T) {
	if l, n := reply.All(nil); len(l) > 0 || n != 0 {
		t.Errorf("All(nil) = %v, %d", l, n)
	}
	for _, s := range bad() {
		expectAll(t, s, nil, 0)
	}
}

// P10.3

func TestTagged(t *testing.T) {
	a, b, c := res{Kind: 9, Tag: "a", Status: 1, Text: "no"}, res{Kind: 9, Tag: "b", Text: "OK"}, res{Kind: 9, Tag: "OK", Status: 2, Text: " OK "}
	for _, x := range []struct{ l, want []res }{
		{nil, nil},
		{some(), []res{a, b, c}},
		{some()[:9], nil},
		{[]res{b, a, b, a}, []res{b, a, b, a}},
		{[]res{{Kind: 6, Tag: "a", Text: "x"}, {Kind: 0, Tag: "a"}, {Tag: "a", Status: 1, Text: "x"}}, nil},
		// Whether it is valid does not matter.
		{[]res{{Kind: 9}, {Kind: -9}, {Kind: 9, N: 3, Tag: "+", Items: 5, Body: []byte("x")}, {Kind: 10, Text: "x"}, {Kind: 8, Text: "x"}}, []res{{Kind: 9}, {Kind: 9, N: 3, Tag: "+", Items: 5, Body: []byte("x")}}},
	} {
		if l := reply.Tagged(x.l...); list(l) != list(x.want) || len(l) != len(x.want) {
			t.Errorf("Tagged(%s) = %s, want %s", list(x.l), list(l), list(x.want))
		}
	}
}

func TestCount(t *testing.T) {
	for kind, want := range map[int]int{0: 0, 1: 1, 2: 1, 3: 1, 4: 4, 5: 1, 6: 1, 7: 1, 8: 1, 9: 3, 10: 1, 11: 0, -1: 0, math.MinInt: 0, math.MaxInt: 0} {
		if n := reply.Count(kind, some()...); n != want {
			t.Errorf("Count(%d) = %d, want %d", kind, n, want)
		}
		if n := reply.Count(kind); n != 0 {
			t.Errorf("Count(%d) of nothing = %d", kind, n)
		}
		// Whether a response is valid does not matter.
		if n := reply.Count(kind, res{Kind: kind}, res{Kind: kind + 1}, res{Kind: kind, N: 5, Tag: "x", Items: -1}, res{Kind: kind - 1}); n != 2 {
			t.Errorf("Count(%d) = %d, want 2", kind, n)
		}
	}
}

// expectUntil compares what Until returns.
func expectUntil(t *testing.T, tag string, l, front, rest []res, found bool) {
	t.Helper()
	x, y, ok := reply.Until(tag, l...)
	if list(x) != list(front) || len(x) != len(front) || list(y) != list(rest) || len(y) != len(rest) || ok != found {
		t.Errorf("Until(%q, %s) = %s, %s, %v, want %s, %s, %v", tag, list(l), list(x), list(y), ok, list(front), list(rest), found)
	}
}

func TestUntil(t *testing.T) {
	l := some()
	expectUntil(t, "a", l, l[:9], l[10:], true)
	expectUntil(t, "b", l, l[:12], l[13:], true)
	expectUntil(t, "OK", l, l[:14], nil, true)
	for _, tag := range []string{"c", "", "A", "B", "ok", "a ", " a", "aa", "no", "*", "+"} {
		expectUntil(t, tag, l, l, nil, false)
	}
	expectUntil(t, "a", nil, nil, nil, false)
	expectUntil(t, "", nil, nil, nil, false)
	expectUntil(t, "a", l[9:10], nil, nil, true)
	expectUntil(t, "b", l[9:10], l[9:10], nil, false)
}

func TestUntilTheFirst(t *testing.T) {
	a, other := res{Kind: 9, Tag: "a", Text: "x"}, res{Kind: 9, Tag: "b", Text: "y"}
	second := res{Kind: 9, Tag: "a", Status: 2, Text: "z"}
	expectUntil(t, "a", []res{other, a, second, other}, []res{other}, []res{second, other}, true)
	expectUntil(t, "a", []res{a, a, a}, nil, []res{a, a}, true)
	expectUntil(t, "b", []res{a, a, other}, []res{a, a}, nil, true)
}

func TestUntilOnlyTagged(t *testing.T) {
	l := []res{{Kind: 6, Tag: "a", Text: "x"}, {Kind: 0, Tag: "a"}, {Kind: 10, Text: "a"}, {Kind: 8, Tag: "a"}, {Kind: 9, Tag: "", Text: "a"}}
	expectUntil(t, "a", l, l, nil, false)
	// A response need not be valid.
	expectUntil(t, "", l, l[:4], nil, true)
	odd := res{Kind: 9, Tag: "a b+", Status: 7, N: 5, Body: []byte("x")}
	expectUntil(t, odd.Tag, []res{l[0], odd, l[1]}, l[:1], l[1:2], true)
}

// P10.4

// valid returns valid responses of many kinds.
func valid() []res {
	numbers := []uint32{0, 1, 9, 10, 4096, 1 << 31, math.MaxUint32}
	texts := []string{"x", " ", "OK", "OK x", "1 EXISTS", "* 1 EXISTS", "a OK x", "+", "\x01", "\x7f\t\"\\", "FLAGS " + allFlags}
	var l []res
	for _, n := range numbers {
		for kind := 1; kind <= 3; kind++ {
			l = append(l, res{Kind: kind, N: n})
		}
		for items := 1; items < 32; items++ {
			for f := range api.Flags(32) {
				for _, body := range []string{"", "x", ")", "\r\n", "{1}\r\nx", ")\r\n* 1 EXISTS\r\n", "\x00\xff"} {
					l = append(l, resp.Message(int(n), items, api.Message{UID: ^n, Flags: f, Body: []byte(body)}))
				}
			}
		}
	}
	for _, text := range texts {
		for _, kind := range []int{6, 7, 8, 10} {
			l = append(l, res{Kind: kind, Text: text})
		}
		for _, tag := range []string{"a", "OK", "NO", "1", "]", "~!#", "FETCH"} {
			for status := range 3 {
				l = append(l, resp.Reply(tag, status, text))
			}
		}
	}
	return append(l, res{Kind: 5})
}

func TestAllInvertsAll(t *testing.T) {
	expectAll(t, string(resp.All(some()...)), some(), len(resp.All(some()...)))
	for _, a := range some() {
		for _, b := range some() {
			s := string(resp.All(a, b, a))
			expectAll(t, s, []res{a, b, a}, len(s))
		}
	}
	l := valid()
	b := resp.All(l...)
	got, n := reply.All(b)
	if len(got) != len(l) || n != len(b) {
		t.Fatalf("%d of %d responses are read, and %d of %d bytes", len(got), len(l), n, len(b))
	}
	for i := range l {
		if fields(got[i]) != fields(l[i]) || !resp.Same(got[i], l[i]) {
			t.Fatalf("%s is read as %s", short(l[i]), short(got[i]))
		}
	}
}

func TestParseInvertsPrint(t *testing.T) {
	for _, r := range valid() {
		b, ok := resp.Print(r)
		if !ok {
			t.Fatalf("%s is not valid", short(r))
		}
		got, n, ok := reply.Parse(b, 0)
		if fields(got) != fields(r) || n != len(b) || !ok {
			t.Fatalf("%s is read as %s", short(r), short(got))
		}
	}
}

// P1 and P2

// Bytes are put together from parts of forms; what is read has the form that was read.
func TestMixedParts(t *testing.T) {
	parts := []string{"* ", "+ ", "a", " ", "OK", " OK ", " NO ", "BYE ", "BAD ", "FLAGS ", "1", "0", "23", " EXISTS", " RECENT", " EXPUNGE", " FETCH (", "UID ", " UID ", "RFC822.SIZE ", " RFC822.SIZE ", "BODY[] ", " BODY[] ", "{1}\r\n", "{2}\r\n", "()", "(\\Seen)", "(", ")", ")\r\n", "\r\n", "\r", "\n", "x", "\x00", "\xff", "* 1 EXISTS\r\n", "a OK x\r\n", allFlags}
	state, count := uint64(1), 0
	next := func(n int) int {
		state = state*6364136223846793005 + 1442695040888963407
		return int(state>>33) % n
	}
	for range 60000 {
		s := []string{"", "* ", "* 1", "* 1 FETCH (", "a OK ", "* 2 FETCH (UID 3"}[next(6)]
		for range next(9) {
			s += parts[next(len(parts))]
		}
		s += []string{"", "\r\n", ")\r\n"}[next(3)]
		if check(t, s) {
			count++
		}
		l, n := reply.All([]byte(s))
		if again := resp.All(l...); string(again) != s[:n] {
			t.Errorf("All(%q) has the forms %q", s, again)
		}
		if _, _, ok := wanted(s[n:]); ok {
			t.Errorf("All(%q) ends at %d", s, n)
		}
	}
	if count < 3000 {
		t.Errorf("only %d responses are tried", count)
	}
}

func TestBytesBeyondTheLengthAreNotRead(t *testing.T) {
	s := "* 1 FETCH (FLAGS () UID 1 RFC822.SIZE 2 BODY[] {2}\r\nxx)\r\n* 1 EXISTS\r\n"
	memory := []byte(s)
	for n := range memory {
		part := memory[:n]
		if _, after, ok := reply.Parse(part, 0); ok != (n >= len(s)-12) || after > n {
			t.Errorf("Parse of %d bytes ends at %d", n, after)
		}
		if l, after := reply.All(part); len(l) > 1 || after > n {
			t.Errorf("All of %d bytes ends at %d", n, after)
		}
	}
	if string(memory) != s {
		t.Errorf("the argument is modified: %q", memory)
	}
	l := some()
	if n := reply.Count(9, l[:9]...); n != 0 {
		t.Errorf("Count reads beyond the length: %d", n)
	}
	reply.Tagged(l[:3]...)
	reply.Until("a", l[:3]...)
	if list(l) != list(some()) {
		t.Error("elements beyond the length are modified")
	}
}

// spoil changes all responses of some, and their bodies.
func spoil(l []res) {
	for i := range l {
		clear(l[i].Body[:cap(l[i].Body)])
		l[i] = res{Kind: 99}
	}
	clear(l[:cap(l)])
}

func TestMemoryOfBytes(t *testing.T) {
	s := "* 1 FETCH (BODY[] {3}\r\nabc)\r\n* 2 FETCH (BODY[] {0}\r\n)\r\n* 3 FETCH (UID 1 BODY[] {2}\r\nde)\r\n"
	b := []byte(s)
	first, _ := reply.All(b)
	second, _ := reply.All(b)
	one, _, _ := reply.Parse(b, 0)
	other, _, _ := reply.Parse(b, 0)
	want, wantOne := list(second), fields(other)
	clear(one.Body[:cap(one.Body)])
	clear(first[0].Body[:cap(first[0].Body)])
	if string(first[2].Body) != "de" {
		t.Errorf("bodies of a result share memory: %s", list(first))
	}
	spoil(first)
	if string(b) != s {
		t.Errorf("a change of a result changes the argument: %q", b)
	}
	clear(b)
	if list(second) != want || fields(other) != wantOne {
		t.Errorf("results share memory: %s, %s", list(second), fields(other))
	}
}

func TestMemoryOfResponses(t *testing.T) {
	fresh := func() []res {
		return []res{{Kind: 4, Items: 16, Body: []byte("one")}, {Kind: 9, Tag: "a", Text: "x", Body: []byte("two")}, {Kind: 9, Tag: "b", Body: []byte("three")}, {Kind: 4, Items: 16, Body: []byte("four")}}
	}
	l := fresh()
	calls := []func() []res{
		func() []res { return reply.Tagged(l...) },
		func() []res { x, _, _ := reply.Until("a", l...); return x },
		func() []res { _, x, _ := reply.Until("a", l...); return x },
		func() []res { x, _, _ := reply.Until("c", l...); return x },
	}
	for i, call := range calls {
		l = fresh()
		first, second := call(), call()
		want := list(second)
		spoil(first)
		if list(l) != list(fresh()) {
			t.Errorf("call %d: a change of the result changes the argument: %s", i, list(l))
		}
		if list(second) != want {
			t.Errorf("call %d: results share memory: %s", i, list(second))
		}
		spoil(l)
		if list(second) != want {
			t.Errorf("call %d: a change of the argument changes the result: %s", i, list(second))
		}
	}
	l = fresh()
	x, y, _ := reply.Until("a", l...)
	if spoil(append(x, res{})); list(y) != list(fresh()[2:]) {
		t.Errorf("both results share memory: %s", list(y))
	}
}

func TestConcurrentCalls(t *testing.T) {
	s := string(resp.All(some()...))
	var group sync.WaitGroup
	for range 8 {
		group.Go(func() {
			for range 50 {
				expectAll(t, s+"x", some(), len(s))
				for _, x := range bad() {
					refuse(t, x, 0)
				}
				expectUntil(t, "a", some(), some()[:9], some()[10:], true)
				if n := reply.Count(4, some()...); n != 4 || len(reply.Tagged(some()...)) != 3 {
					t.Errorf("Count = %d", n)
				}
			}
		})
	}
	group.Wait()
}
