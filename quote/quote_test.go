package quote_test

import (
	"bytes"
	"math"
	"regexp"
	"strconv"
	"strings"
	"sync"
	"testing"

	"cubbyhole/quote"
)

// most is the greatest number of bytes that ScanLiteral reads.
const most = 65536

// The beginnings and ends that the functions look for, as the chapter's sentences give them.
var (
	announced = regexp.MustCompile(`\{(0|[1-9][0-9]*)\}$`)
	quoted    = regexp.MustCompile(`^"((?:[\x01-\x09\x0b\x0c\x0e-!#-\[\]-\x7f]|\\["\\])*)"`)
	escaped   = regexp.MustCompile(`\\(.)`)
	literal   = regexp.MustCompile(`^\{(0|[1-9][0-9]*)\}\r\n`)
)

// texts calls f with every string of up to size parts.
func texts(parts []string, size int, f func(s string)) {
	f("")
	level := []string{""}
	for range size {
		var longer []string
		for _, s := range level {
			for _, p := range parts {
				longer = append(longer, s+p)
				f(s + p)
			}
		}
		level = longer
	}
}

// char returns the string of one byte.
func char(n int) string { return string([]byte{byte(n)}) }

// isText reports whether a byte is a text byte.
func isText(n int) bool { return n >= 1 && n <= 127 && n != 10 && n != 13 }

// quotedForm returns what Quoted is to return.
func quotedForm(s string) (string, bool) {
	for i := range len(s) {
		if !isText(int(s[i])) {
			return "", false
		}
	}
	s = strings.ReplaceAll(s, `\`, `\\`)
	return `"` + strings.ReplaceAll(s, `"`, `\"`) + `"`, true
}

// literalForm returns what Literal is to return.
func literalForm(s string) string { return "{" + strconv.Itoa(len(s)) + "}\r\n" + s }

// check compares all functions that write a form of some bytes with what they are to return.
func check(t *testing.T, s string) {
	t.Helper()
	want, valid := quotedForm(s)
	if got, ok := quote.Quoted([]byte(s)); got != want || ok != valid {
		t.Errorf("Quoted(%.60q) = %.60q, %v", s, got, ok)
	}
	if got := string(quote.Literal([]byte(s))); got != literalForm(s) {
		t.Errorf("Literal(%.60q) = %.60q", s, got)
	}
	best := want
	if !valid {
		best = literalForm(s)
	}
	if got := string(quote.Best([]byte(s))); got != best {
		t.Errorf("Best(%.60q) = %.60q", s, got)
	}
}

// P4.1

func TestQuoted(t *testing.T) {
	for s, want := range map[string]string{
		"":                       `""`,
		"a":                      `"a"`,
		"a b":                    `"a b"`,
		" ":                      `" "`,
		"INBOX":                  `"INBOX"`,
		`"`:                      `"\""`,
		`\`:                      `"\\"`,
		`""`:                     `"\"\""`,
		`\\`:                     `"\\\\"`,
		`\"`:                     `"\\\""`,
		`"\`:                     `"\"\\"`,
		`a"b\c`:                  `"a\"b\\c"`,
		`"a"`:                    `"\"a\""`,
		`a\`:                     `"a\\"`,
		`\n`:                     `"\\n"`,
		"{5}":                    `"{5}"`,
		"()%*]":                  `"()%*]"`,
		"\x01\t\x0b\x0c\x0e\x7f": "\"\x01\t\x0b\x0c\x0e\x7f\"",
	} {
		if got, ok := quote.Quoted([]byte(s)); got != want || !ok {
			t.Errorf("Quoted(%q) = %q, %v", s, got, ok)
		}
		if got := quote.Best([]byte(s)); string(got) != want {
			t.Errorf("Best(%q) = %q", s, got)
		}
	}
	if got, ok := quote.Quoted(nil); got != `""` || !ok {
		t.Errorf("Quoted(nil) = %q, %v", got, ok)
	}
	if got := quote.Best(nil); string(got) != `""` {
		t.Errorf("Best(nil) = %q", got)
	}
}

func TestNoQuoted(t *testing.T) {
	for s, literal := range map[string]string{
		"\x00":            "{1}\r\n\x00",
		"\n":              "{1}\r\n\n",
		"\r":              "{1}\r\n\r",
		"\r\n":            "{2}\r\n\r\n",
		"\x80":            "{1}\r\n\x80",
		"\xff":            "{1}\r\n\xff",
		"a\x00":           "{2}\r\na\x00",
		"\x00a":           "{2}\r\n\x00a",
		"a\nb":            "{3}\r\na\nb",
		"caf\u00e9":       "{5}\r\ncaf\u00e9",
		"\"a\\\r":         "{4}\r\n\"a\\\r",
		"one line\r\ntwo": "{13}\r\none line\r\ntwo",
	} {
		if got, ok := quote.Quoted([]byte(s)); got != "" || ok {
			t.Errorf("Quoted(%q) = %q, %v", s, got, ok)
		}
		if got := quote.Best([]byte(s)); string(got) != literal {
			t.Errorf("Best(%q) = %q", s, got)
		}
	}
}

func TestLiteral(t *testing.T) {
	for s, want := range map[string]string{
		"":                 "{0}\r\n",
		"ab":               "{2}\r\nab",
		"\"\\":             "{2}\r\n\"\\",
		"\r\n":             "{2}\r\n\r\n",
		"{2}\r\nab":        "{7}\r\n{2}\r\nab",
		"\x00\xff}":        "{3}\r\n\x00\xff}",
		"nine byte":        "{9}\r\nnine byte",
		"ten bytes.":       "{10}\r\nten bytes.",
		"\u00e9\u017f\xe9": "{5}\r\n\u00e9\u017f\xe9",
	} {
		if got := quote.Literal([]byte(s)); string(got) != want {
			t.Errorf("Literal(%q) = %q", s, got)
		}
	}
	if got := quote.Literal(nil); string(got) != "{0}\r\n" {
		t.Errorf("Literal(nil) = %q", got)
	}
	if got := quote.Literal([]byte("ab")); len(got) != 7 {
		t.Errorf("the literal form of ab has %d bytes", len(got))
	}
}

func TestFormsOfEachByte(t *testing.T) {
	for n := range 256 {
		for _, rest := range []string{"", "a", `"`, `\`, "\n", "\x80"} {
			check(t, char(n)+rest)
			check(t, rest+char(n))
			check(t, rest+char(n)+rest)
		}
	}
}

func TestFormsOfShortTexts(t *testing.T) {
	texts([]string{"a", `"`, `\`, " ", "\r", "\x80"}, 5, func(s string) { check(t, s) })
	texts([]string{"ab", `"`, `\`}, 8, func(s string) { check(t, s) })
}

// The best form is the quoted one even if it is longer than the literal one.
func TestFormsOfLongTexts(t *testing.T) {
	for _, n := range []int{9, 10, 11, 99, 100, 101, 999, 1000, 8192, most - 1, most, most + 1, 99999, 100000, 1 << 20} {
		for _, s := range []string{"a", `"`, `\`, "\x00"} {
			check(t, strings.Repeat(s, n))
		}
		check(t, strings.Repeat("a", n-1)+"\n")
		check(t, strings.Repeat("a", n-1)+`"`)
		check(t, `\`+strings.Repeat("a", n-1))
	}
}

// P4.2

func TestAnnounced(t *testing.T) {
	for s, want := range map[string]int{
		"{0}":                              0,
		"{1}":                              1,
		"{9}":                              9,
		"{10}":                             10,
		"a SELECT {5}":                     5,
		"a APPEND x {65536}":               65536,
		"{65537}":                          65537,
		"{2147483648}":                     1 << 31,
		"{4294967294}":                     1<<32 - 2,
		"{4294967295}":                     1<<32 - 1,
		"a {4294967295}":                   1<<32 - 1,
		"{{12}":                            12,
		"{5}{6}":                           6,
		"{5} {6}":                          6,
		"} {3}":                            3,
		"{x{3}":                            3,
		"a{3}":                             3,
		"\"{3}":                            3,
		"\"x {3}":                          3,
		"\\{3}":                            3,
		"\x00\xff{3}":                      3,
		"\r\n{3}":                          3,
		"{1}\r\na {3}":                     3,
		strings.Repeat("{", 1<<16) + "7}":  7,
		strings.Repeat("{7}", 1<<16):       7,
		strings.Repeat("1", 1<<16) + "{7}": 7,
	} {
		if n, ok := quote.Announced([]byte(s)); n != want || !ok {
			t.Errorf("Announced(%.60q) = %d, %v", s, n, ok)
		}
	}
}

func TestNotAnnounced(t *testing.T) {
	for _, s := range []string{
		"", "a", "a NOOP", "5", "{", "}", "}{", "{}", "a {}", "{{}", "{}}", // nothing in brackets
		"{5", "5}", "a 5}", "a {5", "(5)", "[5]", "{5)", "(5}", "{5]", // brackets that lack
		"{5} ", "{5}}", "{5}a", "{5}\r", "{5}\r\n", "{5}\n", "{5}\x00", "{5}0", "{5} {", "{5}{", "{5} {}", "{5} x}", "{5}\xff", // not at the end
		"{05}", "{00}", "{000}", "{01}", "{0000000005}", "{04294967295}", // leading zeros
		"{4294967296}", "{4294967301}", "{5000000000}", "{8589934597}", "{10000000000}", "{18446744073709551615}", "{18446744073709551616}", "{18446744073709551621}", "{99999999999999999999999}", // too great
		"{5+}", "{+5}", "{-5}", "{-0}", "{5-}", "{ 5}", "{5 }", "{1 2}", "{1,2}", "{1_0}", "{1.0}", "{1e3}", "{0x5}", "{a}", "{x}", "{5a}", "{a5}", "{*}", // no numbers
		"{\x00}", "{5\x00}", "{\x005}", "{/}", "{:}", "{1/}", "{:1}", "{\u0665}", "{\uff15}", "{5\xff}", "{\n5}", "{5\r\n}",
		"{1}{", "{1}{}", "{1{}", "{1}1}", "{1}}1}", "{1{}}", "~{5+}",
		"{" + strings.Repeat("9", 1<<16) + "}", "{" + strings.Repeat("0", 1<<16) + "}", "{" + strings.Repeat("0", 1<<16) + "5}",
		strings.Repeat("{5}", 1<<16) + "x", strings.Repeat("{5} ", 1<<16) + "{}", strings.Repeat("}", 1<<16), strings.Repeat("{", 1<<16), strings.Repeat("5}", 1<<16), strings.Repeat("{5", 1<<16),
	} {
		if n, ok := quote.Announced([]byte(s)); n != 0 || ok {
			t.Errorf("Announced(%.60q) = %d, %v", s, n, ok)
		}
	}
	if n, ok := quote.Announced(nil); n != 0 || ok {
		t.Errorf("Announced(nil) = %d, %v", n, ok)
	}
}

// checkAnnounced compares Announced with the chapter's sentence.
func checkAnnounced(t *testing.T, s string) {
	t.Helper()
	var want uint64
	valid := false
	if m := announced.FindStringSubmatch(s); m != nil {
		n, err := strconv.ParseUint(m[1], 10, 32)
		if err == nil {
			want, valid = n, true
		}
	}
	if n, ok := quote.Announced([]byte(s)); uint64(n) != want || ok != valid {
		t.Errorf("Announced(%q) = %d, %v", s, n, ok)
	}
}

func TestAnnouncedOfShortLines(t *testing.T) {
	texts([]string{"{", "}", "0", "7", "x"}, 6, func(s string) { checkAnnounced(t, s) })
	texts([]string{"{", "}", "429496729", "5", "6"}, 5, func(s string) { checkAnnounced(t, s) })
}

func TestAnnouncedOfEachByte(t *testing.T) {
	const line = "a {10}"
	for n := range 256 {
		c := char(n)
		for i := range len(line) {
			checkAnnounced(t, line[:i]+c+line[i:])
			checkAnnounced(t, line[:i]+c+line[i+1:])
		}
		checkAnnounced(t, line+c)
	}
}

func TestAnnouncedOfLiterals(t *testing.T) {
	for _, n := range []int{0, 1, 9, 10, 99, 100, 8192, most, most + 1, 1 << 20} {
		line, rest, _ := strings.Cut(string(quote.Literal(make([]byte, n))), "\r\n")
		if got, ok := quote.Announced([]byte("a APPEND " + line)); got != n || len(rest) != n || !ok {
			t.Errorf("Announced(%q) = %d, %v", line, got, ok)
		}
	}
}

// P4.3

// offsets are the offsets of some bytes, and others that are outside of them.
func offsets(s string) []int {
	l := []int{math.MinInt, math.MinInt + 1, math.MinInt32, -2, -1, len(s) + 1, len(s) + 2, 1 << 32, math.MaxInt - 1, math.MaxInt}
	for at := range len(s) + 1 {
		l = append(l, at)
	}
	return l
}

// checkQuoted compares ScanQuoted with the chapter's sentence, at all offsets.
func checkQuoted(t *testing.T, s string) {
	t.Helper()
	for _, at := range offsets(s) {
		var want string
		var after int
		valid := false
		if at >= 0 && at <= len(s) {
			if m := quoted.FindStringSubmatch(s[at:]); m != nil {
				want, after, valid = escaped.ReplaceAllString(m[1], "$1"), at+len(m[0]), true
			}
		}
		b, n, ok := quote.ScanQuoted([]byte(s), at)
		if string(b) != want || n != after || ok != valid {
			t.Errorf("ScanQuoted(%q, %d) = %q, %d, %v", s, at, b, n, ok)
		}
	}
}

func TestScanQuoted(t *testing.T) {
	for _, x := range []struct {
		s     string
		at    int
		want  string
		after int
	}{
		{`""`, 0, "", 2},
		{`"a"`, 0, "a", 3},
		{`"a b"`, 0, "a b", 5},
		{`"a\"b\\c"`, 0, `a"b\c`, 9},
		{`"\""`, 0, `"`, 4},
		{`"\\"`, 0, `\`, 4},
		{`"\\\""`, 0, `\"`, 6},
		{`"\\\\"`, 0, `\\`, 6},
		{`"\\"a"`, 0, `\`, 4},
		{`"\\""`, 0, `\`, 4},
		{`"a""b"`, 0, "a", 3},
		{`"a""b"`, 2, "", 4},
		{`"a""b"`, 3, "b", 6},
		{`"a" "b"`, 2, " ", 5},
		{`x"a"`, 1, "a", 4},
		{`"a"\`, 0, "a", 3},
		{"\"a\"\r\n\x00\xff", 0, "a", 3},
		{"\r\n\x00\xff\"a\"", 4, "a", 7},
		{`a\"b"`, 2, "b", 5},
		{`\"a"`, 1, "a", 4},
		{"\"\x01\t\x0b\x0c\x0e\x7f\"", 0, "\x01\t\x0b\x0c\x0e\x7f", 8},
		{`"{1}"`, 0, "{1}", 5},
		{`"\"a\"" x`, 0, `"a"`, 7},
		{`"\"a\"" x`, 2, `a"`, 7},
	} {
		if b, n, ok := quote.ScanQuoted([]byte(x.s), x.at); string(b) != x.want || n != x.after || !ok {
			t.Errorf("ScanQuoted(%q, %d) = %q, %d, %v", x.s, x.at, b, n, ok)
		}
	}
}

func TestScanNoQuoted(t *testing.T) {
	for _, x := range []struct {
		s  string
		at int
	}{
		{"", 0}, {"a", 0}, {"\x00", 0}, {`a"`, 0}, {` "a"`, 0}, {`'a'`, 0}, {"{1}\r\na", 0}, // another beginning
		{`"`, 0}, {`"a`, 0}, {`"a\"`, 0}, {`"\"`, 0}, {`"\\\"`, 0}, {`"a\`, 0}, {`"\`, 0}, {`"\\`, 0}, // no end
		{`"a"`, 1}, {`"a"`, 2}, {`"a"`, 3}, {`"a"`, 4}, {`"a"`, -1}, {`"a"`, -3}, {`""`, 1}, {`""`, 2}, // another offset
		{`"a"`, math.MinInt}, {`"a"`, math.MaxInt}, {`"a"`, math.MaxInt32}, {`"a"`, 1 << 32}, {`"a"`, -1 << 32}, {"", -1}, {"", 1},
		{`"\a"`, 0}, {`"\n"`, 0}, {`"\0"`, 0}, {`"\ "`, 0}, {`"a\b"`, 0}, {`"\\\a"`, 0}, {`"\'"`, 0}, {"\"\\\x00\"", 0}, // a backslash in front of another byte
		{"\"\\\n\"", 0}, {"\"\\\r\n\"", 0}, {"\"\\\xff\"", 0}, {`"a\Seen"`, 0},
		{"\"\n\"", 0}, {"\"\r\"", 0}, {"\"a\r\nb\"", 0}, {"\"\x00\"", 0}, {"\"a\x00", 0}, {"\"\x80\"", 0}, {"\"\xff\"", 0}, {"\"caf\u00e9\"", 0}, // bytes that are no text bytes
		{`"` + strings.Repeat("a", 1<<16), 0}, {`"` + strings.Repeat(`\"`, 1<<16), 0}, {`"` + strings.Repeat("a", 1<<16) + "\n\"", 0},
	} {
		if b, n, ok := quote.ScanQuoted([]byte(x.s), x.at); len(b) != 0 || n != 0 || ok {
			t.Errorf("ScanQuoted(%.60q, %d) = %.60q, %d, %v", x.s, x.at, b, n, ok)
		}
	}
	if b, n, ok := quote.ScanQuoted(nil, 0); len(b) != 0 || n != 0 || ok {
		t.Errorf("ScanQuoted(nil, 0) = %q, %d, %v", b, n, ok)
	}
}

func TestScanQuotedOfShortTexts(t *testing.T) {
	texts([]string{`"`, `\`, "a", "\n"}, 6, func(s string) { checkQuoted(t, s) })
	texts([]string{`"`, `\`}, 9, func(s string) { checkQuoted(t, s) })
}

func TestScanQuotedOfEachByte(t *testing.T) {
	for n := range 256 {
		c := char(n)
		for _, s := range []string{c, c + `a"`, `"` + c, `"` + c + `"`, `"a` + c + `b"`, `"\` + c + `"`, `"\` + c, `"\\` + c + `"`, `"a"` + c, c + `"a"`} {
			checkQuoted(t, s)
		}
	}
}

// P4.4

// checkLiteral compares ScanLiteral with the chapter's sentence, at all offsets.
func checkLiteral(t *testing.T, s string) {
	t.Helper()
	for _, at := range offsets(s) {
		var want string
		var after int
		valid := false
		if at >= 0 && at <= len(s) {
			if m := literal.FindStringSubmatch(s[at:]); m != nil {
				n, err := strconv.Atoi(m[1])
				from := at + len(m[0])
				if err == nil && n <= most && n <= len(s)-from {
					want, after, valid = s[from:from+n], from+n, true
				}
			}
		}
		b, n, ok := quote.ScanLiteral([]byte(s), at)
		if string(b) != want || n != after || ok != valid {
			t.Errorf("ScanLiteral(%.60q, %d) = %.60q, %d, %v", s, at, b, n, ok)
		}
	}
}

func TestScanLiteral(t *testing.T) {
	for _, x := range []struct {
		s     string
		at    int
		want  string
		after int
	}{
		{"{0}\r\n", 0, "", 5},
		{"{0}\r\nab", 0, "", 5},
		{"{2}\r\nab", 0, "ab", 7},
		{"{2}\r\nabc", 0, "ab", 7},
		{"{1}\r\nab", 0, "a", 6},
		{"x {2}\r\nab", 2, "ab", 9},
		{"{2}\r\n\r\n\r\n", 0, "\r\n", 7},
		{"{4}\r\n{1}\r\nab", 0, "{1}\r", 9},
		{"{7}\r\n{2}\r\nab", 0, "{2}\r\nab", 12},
		{"{7}\r\n{2}\r\nab", 5, "ab", 12},
		{"{{1}\r\n}", 1, "}", 7},
		{"{3}\r\n\x00\xff\"{", 0, "\x00\xff\"", 8},
		{"{10}\r\n0123456789", 0, "0123456789", 16},
		{"\"{1}\r\na", 1, "a", 7},
		{"{1}\r\na{2}\r\nbc", 6, "bc", 13},
	} {
		if b, n, ok := quote.ScanLiteral([]byte(x.s), x.at); string(b) != x.want || n != x.after || !ok {
			t.Errorf("ScanLiteral(%q, %d) = %q, %d, %v", x.s, x.at, b, n, ok)
		}
	}
}

func TestScanNoLiteral(t *testing.T) {
	for _, x := range []struct {
		s  string
		at int
	}{
		{"", 0}, {"a", 0}, {`"a"`, 0}, {" {1}\r\na", 0}, {"}", 0}, {"1}\r\na", 0}, {"(1)\r\na", 0}, {"~{1}\r\na", 0}, // another beginning
		{"{", 0}, {"{1", 0}, {"{1}", 0}, {"{1}\r", 0}, {"{0}", 0}, {"{0}\r", 0}, {"{0", 0}, // an end too early
		{"{1}\r\n", 0}, {"{2}\r\na", 0}, {"{10}\r\n012345678", 0}, {"{65536}\r\na", 0}, {"{4294967295}\r\na", 0}, // bytes that lack
		{"{1}a", 0}, {"{1}\na", 0}, {"{1}\ra", 0}, {"{1}\n\ra", 0}, {"{1} \r\na", 0}, {"{1}\r\r\na", 0}, {"{0}\n", 0}, {"{1}}\r\na", 0}, {"{0}{0}\r\n", 0}, {"{0}\r\r", 0}, {"{0}\n\n", 0}, // another line end
		{"{}\r\na", 0}, {"{00}\r\n", 0}, {"{01}\r\na", 0}, {"{+1}\r\na", 0}, {"{1+}\r\na", 0}, {"{-1}\r\na", 0}, {"{-0}\r\n", 0}, {"{ 1}\r\na", 0}, {"{1 }\r\na", 0}, {"{a}\r\na", 0}, {"{0x1}\r\na", 0}, {"{1_0}\r\n0123456789", 0}, {"{{1}\r\na", 0}, {"{\u0661}\r\na", 0}, {"{1\x00}\r\na", 0}, // no decimal form
		{"{4294967296}\r\n", 0}, {"{4294967297}\r\na", 0}, {"{18446744073709551617}\r\na", 0}, {"{18446744073709551616}\r\n", 0}, {"{" + strings.Repeat("9", 1<<16) + "}\r\na", 0},
		{"{1}\r\na", 1}, {"{1}\r\na", 5}, {"{1}\r\na", 6}, {"{1}\r\na", 7}, {"{1}\r\na", -1}, {"{1}\r\na", -6}, {"{0}\r\n", 5}, {"", -1}, {"", 1}, // another offset
		{"{1}\r\na", math.MinInt}, {"{1}\r\na", math.MaxInt}, {"{1}\r\na", math.MaxInt32}, {"{1}\r\na", 1 << 32}, {"{1}\r\na", -1 << 32},
		{strings.Repeat("{", 1<<16) + "1}\r\na", 0}, {"{" + strings.Repeat("0", 1<<16) + "}\r\n", 0},
	} {
		if b, n, ok := quote.ScanLiteral([]byte(x.s), x.at); len(b) != 0 || n != 0 || ok {
			t.Errorf("ScanLiteral(%.60q, %d) = %.60q, %d, %v", x.s, x.at, b, n, ok)
		}
	}
	if b, n, ok := quote.ScanLiteral(nil, 0); len(b) != 0 || n != 0 || ok {
		t.Errorf("ScanLiteral(nil, 0) = %q, %d, %v", b, n, ok)
	}
}

func TestScanLiteralOfLongTexts(t *testing.T) {
	for _, n := range []int{8192, 8193, most - 1, most, most + 1, most + 2, 99999, 100000, 1 << 17} {
		s := strings.Repeat("x", n)
		form := literalForm(s)
		for _, rest := range []string{"", "y", "\r\n", strings.Repeat("y", most)} {
			b, after, ok := quote.ScanLiteral([]byte("a "+form+rest), 2)
			if n > most {
				if len(b) != 0 || after != 0 || ok {
					t.Errorf("a literal of %d bytes: %d, %d, %v", n, len(b), after, ok)
				}
			} else if string(b) != s || after != 2+len(form) || !ok {
				t.Errorf("a literal of %d bytes: %d, %d, %v", n, len(b), after, ok)
			}
		}
		if b, after, ok := quote.ScanLiteral([]byte(form[:len(form)-1]), 0); len(b) != 0 || after != 0 || ok {
			t.Errorf("a literal of %d bytes without the last one: %d, %d, %v", n, len(b), after, ok)
		}
	}
}

func TestScanLiteralOfShortTexts(t *testing.T) {
	texts([]string{"{", "}\r\n", "}", "\r", "\n", "0", "1", "x"}, 5, func(s string) { checkLiteral(t, s) })
	texts([]string{"{1", "{2}", "\r\n", "0}\r\n", "x"}, 5, func(s string) { checkLiteral(t, s) })
}

func TestScanLiteralOfEachByte(t *testing.T) {
	const form = "{10}\r\n0123456789"
	for n := range 256 {
		c := char(n)
		for i := range len(form) {
			checkLiteral(t, form[:i]+c+form[i:])
			checkLiteral(t, form[:i]+c+form[i+1:])
		}
		checkLiteral(t, form+c)
	}
}

// P4.5

// checkInverse writes the forms of some bytes in front of others, and reads them again.
func checkInverse(t *testing.T, before, s, after string) {
	t.Helper()
	if form, ok := quote.Quoted([]byte(s)); ok {
		b, n, ok := quote.ScanQuoted([]byte(before+form+after), len(before))
		if string(b) != s || n != len(before)+len(form) || !ok {
			t.Errorf("ScanQuoted(%.60q, %d) = %.60q, %d, %v", before+form+after, len(before), b, n, ok)
		}
	}
	form := string(quote.Literal([]byte(s)))
	b, n, ok := quote.ScanLiteral([]byte(before+form+after), len(before))
	if string(b) != s || n != len(before)+len(form) || !ok {
		t.Errorf("ScanLiteral(%.60q, %d) = %.60q, %d, %v", before+form+after, len(before), b, n, ok)
	}
}

func TestScanInvertsForms(t *testing.T) {
	texts([]string{"a", `"`, `\`, "\r\n", "{1}"}, 4, func(s string) {
		for _, after := range []string{"", "a", `"`, `\`, `\"`, `""`, "\r\n", "{1}\r\na", "\x00", "\xff"} {
			for _, before := range []string{"", "x", `"`, `\`, "{1}\r\n"} {
				checkInverse(t, before, s, after)
			}
		}
	})
}

func TestScanInvertsFormsOfBytes(t *testing.T) {
	for x := range 256 {
		for y := range 256 {
			checkInverse(t, "", char(x)+char(y), "")
			checkInverse(t, "", "a"+char(x), char(y))
			checkInverse(t, char(y), char(x), `"`)
		}
	}
}

func TestScanInvertsFormsOfLongTexts(t *testing.T) {
	for _, n := range []int{9, 10, 100, 8192, most / 2} {
		for _, s := range []string{"a", `"`, `\`, `\"`, "\r\n", "{}"} {
			checkInverse(t, "x", strings.Repeat(s, n), `"\`)
		}
	}
	// Only ScanLiteral has a greatest length.
	s := strings.Repeat(`a"`, most)
	form, _ := quote.Quoted([]byte(s))
	if b, n, ok := quote.ScanQuoted([]byte(form), 0); string(b) != s || n != len(form) || !ok {
		t.Errorf("a quoted form of %d bytes: %d, %d, %v", len(form), len(b), n, ok)
	}
}

// P1 and P2

func TestBytesBeyondTheLengthAreNotRead(t *testing.T) {
	quoted, literal, line := []byte(`"ab"`), []byte("{2}\r\nab"), []byte("a {5}")
	for n := range len(quoted) {
		if b, after, ok := quote.ScanQuoted(quoted[:n], 0); len(b) != 0 || after != 0 || ok {
			t.Errorf("%d bytes of a quoted form: %q, %d, %v", n, b, after, ok)
		}
	}
	for n := range len(literal) {
		if b, after, ok := quote.ScanLiteral(literal[:n], 0); len(b) != 0 || after != 0 || ok {
			t.Errorf("%d bytes of a literal form: %q, %d, %v", n, b, after, ok)
		}
	}
	for n := range len(line) {
		if got, ok := quote.Announced(line[:n]); got != 0 || ok {
			t.Errorf("%d bytes of a line: %d, %v", n, got, ok)
		}
	}
	if s, ok := quote.Quoted(quoted[1:2]); s != `"a"` || !ok || string(quote.Best(quoted[1:2])) != s || string(quote.Literal(quoted[1:2])) != "{1}\r\na" {
		t.Error(s, ok)
	}
	if string(quoted)+string(literal)+string(line) != "\"ab\"{2}\r\naba {5}" {
		t.Errorf("the bytes are changed: %q %q %q", quoted, literal, line)
	}
}

// filled overwrites a slice up to its capacity.
func filled(b []byte) {
	b = b[:cap(b)]
	for i := range b {
		b[i] = 'z'
	}
}

func TestResultsShareNoMemory(t *testing.T) {
	for _, s := range []string{"", "ab", `a"\`, "\r\n"} {
		b := []byte(s)
		literal, best := quote.Literal(b), quote.Best(b)
		quoted, _ := quote.Quoted(b)
		forms := append(append([]byte(nil), quoted...), literal...)
		original := string(forms)
		x, _, _ := quote.ScanQuoted(forms, 0)
		y, _, _ := quote.ScanLiteral(forms, len(quoted))
		again, _, _ := quote.ScanLiteral(forms, len(quoted))
		for _, l := range [][]byte{literal, best, x, y} {
			filled(l)
		}
		if string(b) != s || string(forms) != original || string(again) != s {
			t.Errorf("a result shares memory with an argument or another result: %q %q %q", b, forms, again)
		}
	}
	b := []byte(`"ab"{2}` + "\r\nab")
	x, _, _ := quote.ScanQuoted(b, 0)
	y, _, _ := quote.ScanLiteral(b, 4)
	filled(b)
	if string(x) != "ab" || string(y) != "ab" {
		t.Errorf("a change of an argument changes a result: %q %q", x, y)
	}
}

func TestArgumentsAreNotModified(t *testing.T) {
	const text = "\"a\\\"b\" {3}\r\n\r\n\x00 {5}"
	b := []byte(text)
	quote.Quoted(b)
	quote.Literal(b)
	quote.Best(b)
	quote.Announced(b)
	for _, at := range offsets(text) {
		quote.ScanQuoted(b, at)
		quote.ScanLiteral(b, at)
	}
	if string(b) != text {
		t.Errorf("%q", b)
	}
}

func TestConcurrentCalls(t *testing.T) {
	var all sync.WaitGroup
	text := bytes.Repeat([]byte(`a"\`), 1000)
	for range 8 {
		all.Go(func() {
			for range 20 {
				best := quote.Best(text)
				x, n, ok := quote.ScanQuoted(best, 0)
				if !bytes.Equal(x, text) || n != len(best) || !ok {
					t.Error("a concurrent call has another result")
				}
				literal := quote.Literal(text)
				x, n, ok = quote.ScanLiteral(literal, 0)
				if !bytes.Equal(x, text) || n != len(literal) || !ok {
					t.Error("a concurrent call has another result")
				}
			}
		})
	}
	all.Wait()
}
