package frame_test

import (
	"bytes"
	"regexp"
	"runtime"
	"slices"
	"strconv"
	"strings"
	"sync"
	"testing"

	"cubbyhole/frame"
	"cubbyhole/quote"
)

// The greatest numbers of bytes of a line and of a literal.
const (
	maxLine    = 8192
	maxLiteral = 65536
)

// part is a frame, with the number of bytes of the stream up to the end of the last command that has ended with it or before it.
type part struct {
	kind int
	data string
	end  int
}

var announcement = regexp.MustCompile(`\{(0|[1-9][0-9]*)\}$`)

// announced returns the length of the literal that a line announces.
func announced(line string) (int, bool) {
	m := announcement.FindStringSubmatch(line)
	if m == nil {
		return 0, false
	}
	n, err := strconv.ParseUint(m[1], 10, 32)
	return int(n), err == nil
}

// parts returns the frames that are there for a stream, found as the chapter says.
func parts(stream string) []part {
	var l []part
	begin, from := 0, 0
	for from <= len(stream) {
		line, _, ended := strings.Cut(stream[from:], "\r\n")
		if !ended {
			break
		}
		end := from + len(line)
		n, isAnnounced := announced(line)
		var p part
		switch {
		case len(line) > maxLine:
			p = part{frame.Long, line[:maxLine], end + 2}
		case isAnnounced && n > maxLiteral:
			p = part{frame.Big, stream[begin:end], end + 2}
		case isAnnounced:
			l = append(l, part{frame.Ready, "", begin})
			from = end + 2 + n
			continue
		default:
			p = part{frame.Command, stream[begin:end], end + 2}
		}
		l = append(l, p)
		begin, from = p.end, p.end
	}
	return l
}

// shown returns frames, each as the digit of its kind and its data.
func shown(l []frame.Frame) []string {
	var s []string
	for _, f := range l {
		s = append(s, strconv.Itoa(f.Kind)+string(f.Data))
	}
	return s
}

// wanted returns what shown returns for some parts.
func wanted(l []part) []string {
	var s []string
	for _, p := range l {
		s = append(s, strconv.Itoa(p.kind)+p.data)
	}
	return s
}

// left returns the number of bytes that wait in a stream of some parts.
func left(stream string, l []part) int {
	if len(l) == 0 {
		return len(stream)
	}
	return len(stream) - l[len(l)-1].end
}

// short shortens a list and its strings for a message.
func short(l []string) []string {
	var s []string
	for _, x := range l[:min(len(l), 10)] {
		if len(x) > 40 {
			x = x[:20] + ".." + x[len(x)-20:] + " of " + strconv.Itoa(len(x)) + " bytes"
		}
		s = append(s, x)
	}
	return s
}

// checkSplit compares Split with what it is to return.
func checkSplit(t *testing.T, stream string) {
	t.Helper()
	l, n := frame.Split([]byte(stream))
	p := parts(stream)
	if want := wanted(p); !slices.Equal(shown(l), want) || n != left(stream, p) {
		t.Errorf("Split(%.60q) = %q, %d, want %q, %d", stream, short(shown(l)), n, short(want), left(stream, p))
	}
}

// checkNext calls Next until there is no frame, and checks each result for a stream of which done frames have been returned before. It returns how many there are now.
func checkNext(t *testing.T, s *frame.Splitter, stream string, done int) int {
	t.Helper()
	l := parts(stream)
	end := 0
	if done > 0 {
		end = l[done-1].end
	}
	for {
		if n := s.Left(); n != len(stream)-end {
			t.Errorf("after %d frames of %.60q: Left = %d, want %d", done, stream, n, len(stream)-end)
		}
		f, ok := s.Next()
		if done == len(l) {
			if ok || f.Kind != 0 || len(f.Data) != 0 || s.Left() != len(stream)-end {
				t.Errorf("after all frames of %.60q: Next = %d %.60q, %v, then Left = %d", stream, f.Kind, f.Data, ok, s.Left())
			}
			return done
		}
		p := l[done]
		if !ok || f.Kind != p.kind || string(f.Data) != p.data {
			t.Fatalf("frame %d of %.60q: Next = %d %.60q, %v, want %d %.60q", done, stream, f.Kind, f.Data, ok, p.kind, p.data)
		}
		end = p.end
		done++
	}
}

// checkSizes feeds a stream in pieces of a size, and checks all that is there after each of them.
func checkSizes(t *testing.T, stream string, size int) {
	t.Helper()
	s := frame.New()
	done, fed := 0, 0
	for piece := range slices.Chunk([]byte(stream), size) {
		s.Feed(piece...)
		fed += len(piece)
		done = checkNext(t, s, stream[:fed], done)
	}
}

// streams calls f with every stream of up to size pieces.
func streams(pieces []string, size int, f func(s string)) {
	f("")
	level := []string{""}
	for range size {
		var longer []string
		for _, s := range level {
			for _, p := range pieces {
				longer = append(longer, s+p)
				f(s + p)
			}
		}
		level = longer
	}
}

// P5.1

// examples have, for a stream, the frames and the number of bytes that wait, as the chapter's sentences give them.
var examples = []struct {
	stream string
	want   []string
	left   int
}{
	// Lines and what is none.
	{"", nil, 0},
	{"a NOOP\r\n", []string{"1a NOOP"}, 0},
	{"a NOOP", nil, 6},
	{"a NOOP\r", nil, 7},
	{"a NOOP\n", nil, 7},
	{"a NOOP\n\r", nil, 8},
	{"\r\n", []string{"1"}, 0},
	{"\r", nil, 1},
	{"\n", nil, 1},
	{"\n\r", nil, 2},
	{"\r\r", nil, 2},
	{"\r\r\n", []string{"1\r"}, 0},
	{"\r\n\n", []string{"1"}, 1},
	{"\n\r\n", []string{"1\n"}, 0},
	{"\r\n\r", []string{"1"}, 1},
	{"\r\n\r\n", []string{"1", "1"}, 0},
	{"\r\n\r\n\r\n", []string{"1", "1", "1"}, 0},
	{"a\rb\nc\r\n", []string{"1a\rb\nc"}, 0},
	{"a\r\nb\r\nc", []string{"1a", "1b"}, 1},
	{"\x00\xff\x80\r\n", []string{"1\x00\xff\x80"}, 0},
	{"caf\u00e9\u0085\u2028\r\n", []string{"1caf\u00e9\u0085\u2028"}, 0},
	{" \r\n\t\r\n", []string{"1 ", "1\t"}, 0},
	{"a NOOP\r\nb EXPUNGE\r\nc LOGOUT\r\n", []string{"1a NOOP", "1b EXPUNGE", "1c LOGOUT"}, 0},
	// Literals.
	{"a X {1}\r\nb\r\n", []string{"2", "1a X {1}\r\nb"}, 0},
	{"a X {1}\r\n", []string{"2"}, 9},
	{"a X {1}\r", nil, 8},
	{"a X {1}", nil, 7},
	{"a X {1}\r\nb", []string{"2"}, 10},
	{"a X {1}\r\nb\r", []string{"2"}, 11},
	{"{1}\r\n\r\n\r\n", []string{"2", "1{1}\r\n\r\n"}, 0},
	{"{1}\r\n\r\n", []string{"2"}, 7},
	{"{1}\r\n\r\r\n", []string{"2", "1{1}\r\n\r"}, 0},
	{"{1}\r\n\n\r\n", []string{"2", "1{1}\r\n\n"}, 0},
	{"{2}\r\n\r\n\r\n", []string{"2", "1{2}\r\n\r\n"}, 0},
	{"{2}\r\n\r\n", []string{"2"}, 7},
	{"{0}\r\n\r\n", []string{"2", "1{0}\r\n"}, 0},
	{"{0}\r\n", []string{"2"}, 5},
	{"{0}\r\nb\r\n", []string{"2", "1{0}\r\nb"}, 0},
	{"{3}\r\nabc d {2}\r\nef g\r\nh\r\n", []string{"2", "2", "1{3}\r\nabc d {2}\r\nef g", "1h"}, 0},
	{"{0}\r\n{0}\r\n{0}\r\n\r\n", []string{"2", "2", "2", "1{0}\r\n{0}\r\n{0}\r\n"}, 0},
	{"{1}\r\na{1}\r\nb{1}\r\nc", []string{"2", "2", "2"}, 18},
	{"{3}\r\n{1}\r\nx\r\n", []string{"2", "1{3}\r\n{1}", "1x"}, 0},
	{"{5}\r\n{1}\r\nx\r\n", []string{"2", "1{5}\r\n{1}\r\nx"}, 0},
	{"{2}\r\n{1}\r\nx\r\n", []string{"2", "1{2}\r\n{1}", "1x"}, 0},
	{"{1}\r\n{1}\r\nx\r\n", []string{"2", "1{1}\r\n{1}", "1x"}, 0},
	{"{4}\r\na\r\nb\r\nc\r\n", []string{"2", "1{4}\r\na\r\nb", "1c"}, 0},
	{"{1}\r\n\x00\r\n{1}\r\n\xff\r\n", []string{"2", "1{1}\r\n\x00", "2", "1{1}\r\n\xff"}, 0},
	{"a {10}\r\n0123456789 b\r\n", []string{"2", "1a {10}\r\n0123456789 b"}, 0},
	{"a {4294967295}{3}\r\nxyz\r\n", []string{"2", "1a {4294967295}{3}\r\nxyz"}, 0},
	// Lines that announce no literal.
	{"{}\r\n{x}\r\n{1\r\n1}\r\n", []string{"1{}", "1{x}", "1{1", "11}"}, 0},
	{"{1} \r\n {1}x\r\n{1}}\r\n", []string{"1{1} ", "1 {1}x", "1{1}}"}, 0},
	{"{01}\r\n{+1}\r\n{1+}\r\n{-1}\r\n", []string{"1{01}", "1{+1}", "1{1+}", "1{-1}"}, 0},
	{"{4294967296}\r\nx\r\n", []string{"1{4294967296}", "1x"}, 0},
	{"{99999999999999999999}\r\n", []string{"1{99999999999999999999}"}, 0},
	{"{1}\r\r\n{1}\n\r\n", []string{"1{1}\r", "1{1}\n"}, 0},
	{"{1\r\n}\r\n", []string{"1{1", "1}"}, 0},
	{"{1}\r\nx{1\r\n}\r\n", []string{"2", "1{1}\r\nx{1", "1}"}, 0},
	// Literals that are too big.
	{"{65537}\r\n", []string{"4{65537}"}, 0},
	{"{65537}\r", nil, 8},
	{"a {65537}\r\nb NOOP\r\n", []string{"4a {65537}", "1b NOOP"}, 0},
	{"a {99999}\r\n\r\n", []string{"4a {99999}", "1"}, 0},
	{"a {4294967295}\r\nb", []string{"4a {4294967295}"}, 1},
	{"a {4294901760}\r\n", []string{"4a {4294901760}"}, 0},
	{"a {2147483648}\r\n{2147483647}\r\n", []string{"4a {2147483648}", "4{2147483647}"}, 0},
	{"a {2}\r\nbc {65537}\r\nd {1}\r\ne\r\n", []string{"2", "4a {2}\r\nbc {65537}", "2", "1d {1}\r\ne"}, 0},
	{"{0}\r\n{65537}\r\n", []string{"2", "4{0}\r\n{65537}"}, 0},
	{"{65536}\r\n", []string{"2"}, 9},
	{"{65536}\r\nabc\r\n", []string{"2"}, 14},
}

func TestExamples(t *testing.T) {
	for _, c := range examples {
		s := frame.New()
		s.Feed([]byte(c.stream)...)
		var l []frame.Frame
		for f, ok := s.Next(); ok; f, ok = s.Next() {
			l = append(l, f)
		}
		if !slices.Equal(shown(l), c.want) || s.Left() != c.left {
			t.Errorf("%q has the frames %q, and %d bytes wait", c.stream, shown(l), s.Left())
		}
	}
}

func TestNew(t *testing.T) {
	s := frame.New()
	if s == nil {
		t.Fatal("New = nil")
	}
	for range 3 {
		if f, ok := s.Next(); ok || f.Kind != 0 || len(f.Data) != 0 || s.Left() != 0 {
			t.Errorf("Next of an empty stream = %v, %v", f, ok)
		}
	}
}

func TestNil(t *testing.T) {
	var s *frame.Splitter
	s.Feed()
	s.Feed([]byte("a\r\n")...)
	if f, ok := s.Next(); ok || f.Kind != 0 || len(f.Data) != 0 {
		t.Errorf("Next of nil = %v, %v", f, ok)
	}
	if n := s.Left(); n != 0 {
		t.Errorf("Left of nil = %d", n)
	}
}

func TestFeedNothing(t *testing.T) {
	s := frame.New()
	s.Feed()
	s.Feed([]byte{}...)
	s.Feed([]byte(nil)...)
	if _, ok := s.Next(); ok || s.Left() != 0 {
		t.Error("an empty stream has a frame, or bytes")
	}
	s.Feed([]byte("a {0}\r")...)
	s.Feed()
	s.Feed('\n')
	s.Feed()
	if done := checkNext(t, s, "a {0}\r\n", 0); done != 1 {
		t.Errorf("%d frames", done)
	}
	s.Feed()
	s.Feed([]byte("\r\n")...)
	if done := checkNext(t, s, "a {0}\r\n\r\n", 1); done != 2 {
		t.Errorf("%d frames", done)
	}
}

// A Ready and the end of its command have no data but those that the chapter names.
func TestReadyHasNoData(t *testing.T) {
	l, _ := frame.Split([]byte("a {1}\r\nb {2}\r\ncd\r\n"))
	for i, f := range l {
		if f.Kind == frame.Ready && len(f.Data) != 0 {
			t.Errorf("frame %d is Ready and has the data %q", i, f.Data)
		}
	}
}

func TestLinesOfManyBytes(t *testing.T) {
	for _, n := range []int{maxLine - 2, maxLine - 1, maxLine, maxLine + 1, maxLine + 2, maxLine + 3, 2 * maxLine, 2*maxLine + 1, 1 << 20} {
		line := strings.Repeat("0123456789abcdef", n/16+1)[:n]
		for _, end := range []string{"", "\r", "\n", "\r\r", "\r\n", "\r\r\n", "\n\r\n", "\r\nb", "\r\nb\r\n", "\r\n\r\n", "{3}\r\nxyz\r\n", "\r\n{1}\r\nx\r\n"} {
			for _, begin := range []string{"", "a\r\n", "{3}\r\nxyz", "{3}\r\nxyz{0}\r\n", line + "\r\n"} {
				checkSplit(t, begin+line+end)
			}
		}
	}
}

func TestLongest(t *testing.T) {
	line := strings.Repeat("x", maxLine)
	for stream, want := range map[string]string{
		line + "\r\n":                             "1" + line,
		line + "y\r\n":                            "3" + line,
		line + "\r\r\n":                           "3" + line,
		line + "\n\r\n":                           "3" + line,
		line[1:] + "\r\r\n":                       "1" + line[1:] + "\r",
		line[3:] + "{0}\r\n":                      "2",
		line[2:] + "{0}\r\n":                      "3" + line[2:] + "{0",
		line + "{0}\r\n":                          "3" + line,
		line + "{65537}\r\n":                      "3" + line,
		line[7:] + "{65537}\r\n":                  "4" + line[7:] + "{65537}",
		line[6:] + "{65537}\r\n":                  "3" + line[6:] + "{65537",
		"{0}" + line + "\r\n":                     "3{0}" + line[3:],
		strings.Repeat("\n", maxLine+1) + "\r\n":  "3" + strings.Repeat("\n", maxLine),
		strings.Repeat("\r", maxLine+1) + "\r\n":  "3" + strings.Repeat("\r", maxLine),
		strings.Repeat("\r", maxLine) + "\r\n":    "1" + strings.Repeat("\r", maxLine),
		strings.Repeat("\n\rx", maxLine) + "\r\n": "3" + strings.Repeat("\n\rx", maxLine)[:maxLine],
	} {
		for range 2 {
			if l, n := frame.Split([]byte(stream)); !slices.Equal(shown(l)[:1], []string{want}) {
				t.Errorf("Split of %d bytes: %q, %d", len(stream), short(shown(l)), n)
			}
		}
	}
}

// A line that is too long has no frame before its end is there.
func TestLongWithoutEnd(t *testing.T) {
	for _, rest := range []string{"y", "yy", "\r", "\n", "\r\r", "\n\r", "y\r", "{3}", "y\ry\n"} {
		s := frame.New()
		stream := strings.Repeat("x", maxLine) + rest
		s.Feed([]byte(stream)...)
		if done := checkNext(t, s, stream, 0); done != 0 {
			t.Errorf("%q after a line has a frame", rest)
		}
	}
}

// The data of a Long after a literal are those of the line alone, while those of the other frames are the whole command.
func TestLongAfterLiteral(t *testing.T) {
	line := strings.Repeat("x", maxLine)
	for _, n := range []int{0, 1, 2, maxLine - 1, maxLine, maxLine + 1, maxLiteral} {
		literal := string(quote.Literal(bytes.Repeat([]byte("\n"), n)))
		for stream, want := range map[string][]string{
			literal + line + "\r\n":                                  {"2", "1" + literal + line},
			literal + line + "y\r\nz\r\n":                            {"2", "3" + line, "1z"},
			literal + literal + line + "\r\n":                        {"2", "2", "1" + literal + literal + line},
			literal + literal + line + "y{1}\r\n" + literal + "\r\n": {"2", "2", "3" + line, "2", "1" + literal},
			literal + line[7:] + "{65537}\r\n":                       {"2", "4" + literal + line[7:] + "{65537}"},
			literal + line[6:] + "{65537}\r\n":                       {"2", "3" + line[6:] + "{65537"},
		} {
			l, left := frame.Split([]byte(stream))
			if !slices.Equal(shown(l), want) || left != 0 {
				t.Errorf("Split after a literal of %d bytes: %q, %d", n, short(shown(l)), left)
			}
		}
	}
}

func TestLiteralsOfManyBytes(t *testing.T) {
	for _, n := range []int{9, 10, 99, 100, maxLine - 1, maxLine, maxLine + 1, 9999, 10000, maxLiteral - 1, maxLiteral, maxLiteral + 1} {
		for _, unit := range []string{"x", "\r\n", "{1}\r\n", "\x00\xff"} {
			b := strings.Repeat(unit, n)[:n]
			head := "a X {" + strconv.Itoa(n) + "}\r\n"
			for _, rest := range []string{"", "\r", "\r\n", " y\r\nb\r\n", " {1}\r\n" + "z\r\n"} {
				checkSplit(t, head+b+rest)
				checkSplit(t, "b\r\n"+head+b[:n-1]+rest)
			}
			checkSplit(t, head+b+" {"+strconv.Itoa(n)+"}\r\n"+b+"\r\n")
		}
	}
}

func TestEachByte(t *testing.T) {
	for n := range 256 {
		c := string([]byte{byte(n)})
		for _, stream := range []string{c + "\r\n", "a" + c + "b\r\n", "\r" + c + "\r\n", "\r" + c, c + "\n", "{1}" + c + "\r\nx\r\n", "{" + c + "1}\r\nx\r\n", "{1" + c + "\r\nx\r\n", "{1}\r\n" + c + "\r\n", "{1}\r" + c + "x\r\n", "{1}\r\nx" + c + "\r\n"} {
			checkSplit(t, stream)
			checkSizes(t, stream, 1)
		}
	}
}

func TestShortStreams(t *testing.T) {
	streams([]string{"\r", "\n", "a", "{1}", "{2}"}, 6, func(s string) { checkSplit(t, s) })
	streams([]string{"\r\n", "\r", "\n", "{0}", "{1}", "{3}", "{65537}"}, 5, func(s string) { checkSplit(t, s) })
	streams([]string{"\r\n", "{", "4", "}", "a"}, 6, func(s string) { checkSplit(t, s) })
}

// The bytes that are fed, those of the results and those of the splitter are different memory.
func TestMemory(t *testing.T) {
	const stream = "a {2}\r\nxy z\r\nb\r\nc {3}\r\nxyz\r\n"
	fed := []byte(stream)
	s := frame.New()
	s.Feed(fed...)
	if string(fed) != stream {
		t.Errorf("Feed has modified its argument: %q", fed)
	}
	clear(fed)
	var l []frame.Frame
	var want []string
	for f, ok := s.Next(); ok; f, ok = s.Next() {
		l = append(l, f)
		want = append(want, shown(l[len(l)-1:])...)
	}
	if !slices.Equal(want, wanted(parts(stream))) {
		t.Errorf("after the argument was modified: %q", want)
	}
	for i, f := range l {
		all := f.Data[:cap(f.Data)]
		for k := range all {
			all[k] = '!'
		}
		if !slices.Equal(shown(l[i+1:]), want[i+1:]) {
			t.Errorf("frame %d shares memory with another one", i)
		}
	}
}

// Data that are modified, or appended to, do not reach the bytes that wait.
func TestMemoryOfSplitter(t *testing.T) {
	const stream = "a\r\n{1}\r\nb\r\nc {65537}\r\nd\r\n{1}\r\ne"
	s := frame.New()
	s.Feed([]byte(stream)...)
	var l []string
	for f, ok := s.Next(); ok; f, ok = s.Next() {
		l = append(l, shown([]frame.Frame{f})...)
		clear(f.Data[:cap(f.Data)])
		_ = append(f.Data, "0123456789"...)
	}
	if !slices.Equal(l, wanted(parts(stream))) {
		t.Errorf("frames %q", l)
	}
	s.Feed([]byte("\r\n")...)
	if f, ok := s.Next(); !ok || string(f.Data) != "{1}\r\ne" {
		t.Errorf("Next = %q, %v", f.Data, ok)
	}
	long := strings.Repeat("x", maxLine) + "y"
	s.Feed([]byte(long + "\r\n" + long)...)
	f, _ := s.Next()
	clear(f.Data[:cap(f.Data)])
	s.Next()
	s.Feed([]byte("\r\n")...)
	if f, ok := s.Next(); !ok || string(f.Data) != long[:maxLine] {
		t.Errorf("Next = %.60q, %v", f.Data, ok)
	}
}

func TestLengthOfArguments(t *testing.T) {
	b := []byte("a\r\nb\r\n{1}\r\nc\r\n")
	for n := range len(b) + 1 {
		l, _ := frame.Split(b[:n])
		if want := wanted(parts(string(b[:n]))); !slices.Equal(shown(l), want) {
			t.Errorf("Split of %d bytes: %q", n, shown(l))
		}
		s := frame.New()
		s.Feed(b[:n]...)
		s.Feed('x')
		checkNext(t, s, string(b[:n])+"x", 0)
		if string(b) != "a\r\nb\r\n{1}\r\nc\r\n" {
			t.Fatalf("bytes beyond the length were modified: %q", b)
		}
	}
}

// A line without an end may be of any length, and takes no more memory than its data.
func TestEndlessLine(t *testing.T) {
	used := func() uint64 {
		runtime.GC()
		var m runtime.MemStats
		runtime.ReadMemStats(&m)
		return m.HeapAlloc
	}
	piece := bytes.Repeat([]byte("0123456789abcde\r"), 1<<14)
	s := frame.New()
	s.Feed([]byte("a {5}\r\nbcdef")...)
	s.Next()
	size, before := s.Left(), used()
	for range 512 {
		s.Feed(piece...)
		size += len(piece)
		if f, ok := s.Next(); ok || s.Left() != size {
			t.Fatalf("Next = %d, %v; %d bytes wait of %d", f.Kind, ok, s.Left(), size)
		}
	}
	if after := used(); after > before+1<<24 {
		t.Errorf("%d bytes of memory are used", after-before)
	}
	s.Feed([]byte("\nb")...)
	f, ok := s.Next()
	if !ok || f.Kind != frame.Long || string(f.Data) != string(piece[:maxLine]) || s.Left() != 1 {
		t.Errorf("Next = %d %.60q, %v; %d bytes wait", f.Kind, f.Data, ok, s.Left())
	}
	s.Feed([]byte("\r\n")...)
	if f, ok := s.Next(); !ok || string(f.Data) != "b" || s.Left() != 0 {
		t.Errorf("Next = %q, %v", f.Data, ok)
	}
}

// P5.2

func TestLeft(t *testing.T) {
	s := frame.New()
	check := func(want int) {
		t.Helper()
		for range 2 {
			if n := s.Left(); n != want {
				t.Errorf("Left = %d, want %d", n, want)
			}
		}
	}
	next := func(kind int) {
		t.Helper()
		if f, ok := s.Next(); f.Kind != kind || ok != (kind != 0) {
			t.Errorf("Next = %d, %v", f.Kind, ok)
		}
	}
	s.Feed([]byte("a\r\nb {2}\r\nxy\r\n")...)
	check(14) // the frames are there, but Next has not returned them
	next(frame.Command)
	check(11)
	next(frame.Ready)
	check(11) // a Ready ends no command
	next(frame.Command)
	check(0)
	next(0)
	check(0)
	s.Feed([]byte("c {65537}\r\nd")...)
	check(12)
	next(frame.Big)
	check(1)
	s.Feed([]byte(strings.Repeat("x", maxLine))...)
	check(maxLine + 1)
	next(0)
	check(maxLine + 1)
	s.Feed([]byte("\r")...)
	next(0)
	check(maxLine + 2)
	s.Feed([]byte("\ne {1}\r\n")...)
	check(maxLine + 10)
	next(frame.Long)
	check(7)
	next(frame.Ready)
	check(7)
	next(0)
	check(7)
	s.Feed([]byte("1 {0}\r\n")...)
	check(14)
	next(frame.Ready)
	check(14)
	s.Feed([]byte("\r\n\r\n")...)
	check(18)
	next(frame.Command)
	check(2)
	next(frame.Command)
	check(0)
}

// Left counts the bytes of a line that is too long, and of what precedes it in its command.
func TestLeftOfLongLine(t *testing.T) {
	for _, begin := range []string{"", "a {3}\r\nbcd", "a {0}\r\n{1}\r\nx"} {
		s := frame.New()
		stream, done := begin, 0
		s.Feed([]byte(begin)...)
		for i := range 300 {
			done = checkNext(t, s, stream, done)
			piece := strings.Repeat("x", i) + "\r"
			s.Feed([]byte(piece)...)
			stream += piece
		}
		s.Feed([]byte("\n\r\n")...)
		stream += "\n\r\n"
		if n := checkNext(t, s, stream, done) - done; n != 2 {
			t.Errorf("%d frames at the end", n)
		}
	}
}

// P5.3

func TestSplit(t *testing.T) {
	for _, c := range examples {
		if l, n := frame.Split([]byte(c.stream)); !slices.Equal(shown(l), c.want) || n != c.left {
			t.Errorf("Split(%q) = %q, %d", c.stream, shown(l), n)
		}
	}
	if l, n := frame.Split(nil); len(l) != 0 || n != 0 {
		t.Errorf("Split(nil) = %v, %d", l, n)
	}
}

func TestSplitMemory(t *testing.T) {
	const stream = "a\r\n{1}\r\nb\r\nc {65537}\r\nd"
	b := []byte(stream)
	l, _ := frame.Split(b)
	if string(b) != stream {
		t.Errorf("Split has modified its argument: %q", b)
	}
	clear(b)
	want := wanted(parts(stream))
	if !slices.Equal(shown(l), want) {
		t.Errorf("after the argument was modified: %q", shown(l))
	}
	for i, f := range l {
		clear(f.Data[:cap(f.Data)])
		if !slices.Equal(shown(l[i+1:]), want[i+1:]) {
			t.Errorf("frame %d shares memory with another one", i)
		}
	}
}

// Streams of many bytes take no longer than it takes to read them a few times.
func TestLargeStreams(t *testing.T) {
	line := strings.Repeat("x", maxLine)
	for _, unit := range []string{"\r\n", "a NOOP\r\n", "{0}\r\n", "{1}\r\nx\r\n", "\r", "x", "\n\r", line + "\r\n", line + "y\r\n", "{65536}\r\n" + strings.Repeat("x", maxLiteral), "{65537}\r\n"} {
		stream := strings.Repeat(unit, 1<<20/len(unit)+1)
		checkSplit(t, stream)
		checkSplit(t, stream+"\r\n")
	}
}

// P5.4

func TestDivisions(t *testing.T) {
	for _, c := range examples {
		for size := range 5 {
			checkSizes(t, c.stream, size+1)
		}
		for i := range len(c.stream) + 1 {
			s := frame.New()
			s.Feed([]byte(c.stream[:i])...)
			done := checkNext(t, s, c.stream[:i], 0)
			s.Feed([]byte(c.stream[i:])...)
			checkNext(t, s, c.stream, done)
		}
	}
}

// The frames are also the same if all pieces are fed before the first call of Next.
func TestDivisionsBeforeNext(t *testing.T) {
	for _, c := range examples {
		for size := range 4 {
			s := frame.New()
			for piece := range slices.Chunk([]byte(c.stream), size+1) {
				s.Feed(piece...)
			}
			checkNext(t, s, c.stream, 0)
		}
	}
}

func TestDivisionsOfShortStreams(t *testing.T) {
	streams([]string{"\r", "\n", "a", "{1}"}, 5, func(s string) { checkSizes(t, s, 1) })
	streams([]string{"\r\n", "{0}", "{2}", "{65537}", "a"}, 4, func(s string) {
		for size := range 3 {
			checkSizes(t, s, size+1)
		}
	})
}

func TestDivisionsOfLongStreams(t *testing.T) {
	line := strings.Repeat("x", maxLine)
	for _, stream := range []string{
		line + "\r\n" + line + "y\r\nz\r\n",
		"{3}\r\nabc" + line + "y\r\n{1}\r\nx\r\n",
		line + line + "\r" + line + "\n\r\n\r\n",
		line[1:] + "\r\r\n" + line + "\r\r\n",
		line[3:] + "{5}\r\nabcde" + line[7:] + "{65537}\r\n\r\n",
	} {
		for _, size := range []int{1000, maxLine - 1, maxLine, maxLine + 1, maxLine + 2, maxLine + 3} {
			checkSizes(t, stream, size)
		}
		for i := maxLine - 4; i < maxLine+12; i++ {
			s := frame.New()
			s.Feed([]byte(stream[:i])...)
			done := checkNext(t, s, stream[:i], 0)
			s.Feed([]byte(stream[i:])...)
			checkNext(t, s, stream, done)
		}
		s := frame.New()
		var l []frame.Frame
		for i := range len(stream) {
			s.Feed(stream[i])
			for f, ok := s.Next(); ok; f, ok = s.Next() {
				l = append(l, f)
			}
		}
		if p := parts(stream); !slices.Equal(shown(l), wanted(p)) || s.Left() != left(stream, p) {
			t.Errorf("the bytes of %.60q one by one have the frames %q, and %d bytes wait", stream, short(shown(l)), s.Left())
		}
	}
}

// Bytes that come one by one take no longer than a few looks at each of them, whether the line is short or never ends.
func TestManyBytesOneByOne(t *testing.T) {
	for _, unit := range []string{"x", "\r", "a NOOP\r\n", "{65536}\r\n" + strings.Repeat("x", maxLiteral)} {
		stream := strings.Repeat(unit, 1<<21/len(unit))
		s := frame.New()
		frames := 0
		for i := range len(stream) {
			s.Feed(stream[i])
			for _, ok := s.Next(); ok; _, ok = s.Next() {
				frames++
			}
		}
		if p := parts(stream); frames != len(p) || s.Left() != left(stream, p) {
			t.Errorf("%d frames of %.60q, and %d bytes wait", frames, stream, s.Left())
		}
	}
}

// Commands that follow each other have the frames of each of them.
func TestCommandsInARow(t *testing.T) {
	commands := []string{"a NOOP\r\n", "\r\n", "b {3}\r\nx\r\n\r\n", "c {0}\r\n {2}\r\n{1}\r\n", "d {65537}\r\n", "e {1}\r\n{ {65537}\r\n", strings.Repeat("f", maxLine+1) + "\r\n", "g {1}\r\n\r" + strings.Repeat("\r", maxLine+1) + "\r\n"}
	streams(commands, 3, func(stream string) { checkSplit(t, stream) })
	for _, first := range commands {
		for _, second := range commands {
			l, _ := frame.Split([]byte(first))
			m, _ := frame.Split([]byte(second))
			both, n := frame.Split([]byte(first + second))
			if !slices.Equal(shown(both), append(shown(l), shown(m)...)) || n != 0 {
				t.Errorf("%.60q and %.60q: %q, %d", first, second, short(shown(both)), n)
			}
		}
	}
}

// P2

func TestSplittersAreIndependent(t *testing.T) {
	const one, two = "a {2}\r\n\r\nb\r\n{65537}\r\n", "{1}\r\nc {1}\r\nd\r\n\r\nx"
	x, y := frame.New(), frame.New()
	doneX, doneY := 0, 0
	for i := range max(len(one), len(two)) {
		if i < len(one) {
			x.Feed(one[i])
			doneX = checkNext(t, x, one[:i+1], doneX)
		}
		if i < len(two) {
			y.Feed(two[i])
			doneY = checkNext(t, y, two[:i+1], doneY)
		}
	}
	if doneX != 3 || doneY != 4 {
		t.Errorf("%d and %d frames", doneX, doneY)
	}
}

func TestConcurrentCalls(t *testing.T) {
	var wait sync.WaitGroup
	for range 8 {
		wait.Go(func() {
			for _, c := range examples {
				checkSplit(t, c.stream)
				s := frame.New()
				for i := range len(c.stream) {
					s.Feed(c.stream[i])
				}
				checkNext(t, s, c.stream, 0)
			}
		})
	}
	wait.Wait()
}
