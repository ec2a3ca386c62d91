package resp_test

import (
	"bytes"
	"fmt"
	"math"
	"regexp"
	"slices"
	"strings"
	"sync"
	"testing"

	"cubbyhole/api"
	"cubbyhole/resp"
)

type res = api.Response

// mostLiteral is the greatest number of bytes of a body.
const mostLiteral = 65536

// allFlags is the list of all flags.
const allFlags = `(\Answered \Flagged \Deleted \Seen \Draft)`

// The kinds by their numbers: the words of their forms, and the fields that may differ from zero.
var (
	words = []string{"", "EXISTS", "RECENT", "EXPUNGE", "FETCH", "FLAGS", "* OK", "* BYE", "* BAD", "", "+"}
	known = []string{"", "N", "N", "N", "N Items Flags UID Size Body", "", "Text", "Text", "Text", "Tag Status Text", "Text"}
)

var (
	tagBytes  = regexp.MustCompile("^[!#$&',-\\[\\]-z|}~]+$")
	textBytes = regexp.MustCompile("^[\x01-\x09\x0b\x0c\x0e-\x7f]+$")
)

// used returns the names of the fields, other than the kind, that are not zero.
func used(r res) []string {
	l := []string{}
	for _, x := range []struct {
		name string
		is   bool
	}{
		{"N", r.N != 0}, {"Tag", r.Tag != ""}, {"Status", r.Status != 0}, {"Text", r.Text != ""}, {"Items", r.Items != 0},
		{"Flags", r.Flags != 0}, {"UID", r.UID != 0}, {"Size", r.Size != 0}, {"Body", len(r.Body) > 0},
	} {
		if x.is {
			l = append(l, x.name)
		}
	}
	return l
}

// allowed reports whether a response has no fields but those that its form has.
func allowed(r res) bool {
	fields := strings.Fields(known[r.Kind])
	for name, item := range map[string]int{"Flags": 1, "UID": 2, "Size": 4, "Body": 16} {
		if r.Items&item == 0 {
			fields = slices.DeleteFunc(fields, func(s string) bool { return s == name })
		}
	}
	for _, name := range used(r) {
		if !slices.Contains(fields, name) {
			return false
		}
	}
	return true
}

// valid reports what Valid is to report.
func valid(r res) bool {
	if r.Kind < 1 || r.Kind > 10 || !allowed(r) {
		return false
	}
	switch r.Kind {
	case 4:
		sums := []int{1, 2, 3, 4, 5, 6, 7, 16, 17, 18, 19, 20, 21, 22, 23}
		return slices.Contains(sums, r.Items) && r.Flags < 32 && len(r.Body) <= mostLiteral
	case 9:
		return tagBytes.MatchString(r.Tag) && r.Status >= 0 && r.Status < 3 && textBytes.MatchString(r.Text)
	case 6, 7, 8, 10:
		return textBytes.MatchString(r.Text)
	}
	return true
}

// bracketed returns the list of some flags.
func bracketed(f api.Flags) string {
	var l []string
	for i, name := range strings.Fields(strings.Trim(allFlags, "()")) {
		if f>>i&1 == 1 {
			l = append(l, name)
		}
	}
	return "(" + strings.Join(l, " ") + ")"
}

// written returns the form of a valid response.
func written(r res) string {
	switch r.Kind {
	case 1, 2, 3:
		return fmt.Sprintf("* %d %s\r\n", r.N, words[r.Kind])
	case 4:
		parts := []string{1: "FLAGS " + bracketed(r.Flags), 2: fmt.Sprint("UID ", r.UID), 4: fmt.Sprint("RFC822.SIZE ", r.Size), 16: fmt.Sprintf("BODY[] {%d}\r\n%s", len(r.Body), r.Body)}
		var l []string
		for item, part := range parts {
			if r.Items&item != 0 && part != "" {
				l = append(l, part)
			}
		}
		return fmt.Sprintf("* %d FETCH (%s)\r\n", r.N, strings.Join(l, " "))
	case 5:
		return "* FLAGS " + allFlags + "\r\n"
	case 9:
		return r.Tag + " " + []string{"OK", "NO", "BAD"}[r.Status] + " " + r.Text + "\r\n"
	}
	return words[r.Kind] + " " + r.Text + "\r\n"
}

// fields returns all fields of a response, so that equal ones have the same.
func fields(r res) string {
	return fmt.Sprintf("%d %d %q %d %q %d %d %d %d %q", r.Kind, r.N, r.Tag, r.Status, r.Text, r.Items, r.Flags, r.UID, r.Size, r.Body)
}

// short returns as much of a response as a message shows.
func short(r res) string { return fmt.Sprintf("%.200s", fields(r)) }

// expect compares what the functions return for a valid response with its form.
func expect(t *testing.T, r res, want string) {
	t.Helper()
	if b, ok := resp.Print(r); string(b) != want || !ok {
		t.Errorf("Print(%s) = %.200q, %v, want %.200q", short(r), b, ok, want)
	}
	if b := resp.All(r); string(b) != want {
		t.Errorf("All(%s) = %.200q, want %.200q", short(r), b, want)
	}
	if !resp.Valid(r) {
		t.Errorf("%s is not valid", short(r))
	}
}

// refuse checks that a response is not valid.
func refuse(t *testing.T, r res) {
	t.Helper()
	if b, ok := resp.Print(r); len(b) > 0 || ok {
		t.Errorf("Print(%s) = %.200q, %v", short(r), b, ok)
	}
	if b := resp.All(r); len(b) > 0 {
		t.Errorf("All(%s) = %.200q", short(r), b)
	}
	if resp.Valid(r) {
		t.Errorf("%s is valid", short(r))
	}
}

// check compares what the functions return for a response with what they are to return, and returns whether it is valid.
func check(t *testing.T, r res) bool {
	t.Helper()
	ok := valid(r)
	if ok {
		expect(t, r, written(r))
	} else {
		refuse(t, r)
	}
	return ok
}

// char returns the string of one byte.
func char(n int) string { return string([]byte{byte(n)}) }

// numbers are numbers at the ends of ranges, and where the count of digits changes.
var numbers = []uint32{0, 1, 2, 9, 10, 11, 99, 100, 4096, 65535, 65536, 1<<31 - 1, 1 << 31, 999999999, 1000000000, math.MaxUint32 - 1, math.MaxUint32}

// P9.1

func TestExample(t *testing.T) {
	r := resp.Message(2, 3, api.Message{UID: 7, Flags: api.Seen})
	expect(t, r, "* 2 FETCH (FLAGS (\\Seen) UID 7)\r\n")
}

func TestPrint(t *testing.T) {
	for _, x := range []struct {
		r    res
		want string
	}{
		{res{Kind: api.Exists}, "* 0 EXISTS"},
		{res{Kind: api.Exists, N: 12}, "* 12 EXISTS"},
		{res{Kind: api.Recent, N: 1}, "* 1 RECENT"},
		{res{Kind: api.Expunged, N: math.MaxUint32}, "* 4294967295 EXPUNGE"},
		{res{Kind: api.FlagList}, `* FLAGS (\Answered \Flagged \Deleted \Seen \Draft)`},
		{res{Kind: api.Info, Text: "x"}, "* OK x"},
		{res{Kind: api.Info, Text: "[UIDVALIDITY 1] ok"}, "* OK [UIDVALIDITY 1] ok"},
		{res{Kind: api.Bye, Text: "good bye"}, "* BYE good bye"},
		{res{Kind: api.BadLine, Text: "BAD"}, "* BAD BAD"},
		{res{Kind: api.Continue, Text: "+"}, "+ +"},
		{res{Kind: api.Continue, Text: " "}, "+  "},
		{res{Kind: api.Tagged, Tag: "a1", Text: "done"}, "a1 OK done"},
		{res{Kind: api.Tagged, Tag: "]", Status: api.StatusNO, Text: "\x01\t\x7f"}, "] NO \x01\t\x7f"},
		{res{Kind: api.Tagged, Tag: "OK", Status: api.StatusBAD, Text: " OK "}, "OK BAD  OK "},
		{res{Kind: api.Fetched, Items: api.ItemFlags}, "* 0 FETCH (FLAGS ())"},
		{res{Kind: api.Fetched, Items: api.ItemFlags, N: 3, Flags: api.AllFlags}, `* 3 FETCH (FLAGS (\Answered \Flagged \Deleted \Seen \Draft))`},
		{res{Kind: api.Fetched, Items: api.ItemUID, N: 3}, "* 3 FETCH (UID 0)"},
		{res{Kind: api.Fetched, Items: api.ItemUID, N: 3, UID: math.MaxUint32}, "* 3 FETCH (UID 4294967295)"},
		{res{Kind: api.Fetched, Items: api.ItemSize, N: 3}, "* 3 FETCH (RFC822.SIZE 0)"},
		{res{Kind: api.Fetched, Items: api.ItemSize, N: 3, Size: math.MaxUint32}, "* 3 FETCH (RFC822.SIZE 4294967295)"},
		{res{Kind: api.Fetched, Items: api.ItemBody, N: 3}, "* 3 FETCH (BODY[] {0}\r\n)"},
		{res{Kind: api.Fetched, Items: api.ItemBody, N: 3, Body: []byte("a)\r\n\x00\xff")}, "* 3 FETCH (BODY[] {6}\r\na)\r\n\x00\xff)"},
		{res{Kind: api.Fetched, Items: 23, N: 10, Flags: api.Draft | api.Deleted, UID: 20, Size: 30, Body: []byte("0123456789")}, "* 10 FETCH (FLAGS (\\Deleted \\Draft) UID 20 RFC822.SIZE 30 BODY[] {10}\r\n0123456789)"},
		{res{Kind: api.Fetched, Items: api.ItemBody | api.ItemUID, N: 1, UID: 5, Body: []byte("x")}, "* 1 FETCH (UID 5 BODY[] {1}\r\nx)"},
		{res{Kind: api.Fetched, Items: api.ItemSize | api.ItemFlags, N: 1, Flags: api.Flagged}, "* 1 FETCH (FLAGS (\\Flagged) RFC822.SIZE 0)"},
	} {
		expect(t, x.r, x.want+"\r\n")
		check(t, x.r)
	}
}

func TestInvalid(t *testing.T) {
	for _, r := range []res{
		{}, {Text: "x"}, {N: 1}, {Tag: "a", Text: "x"},
		{Kind: 11}, {Kind: 11, Text: "x"}, {Kind: -1}, {Kind: -6, Text: "x"}, {Kind: math.MinInt}, {Kind: math.MaxInt}, {Kind: 1<<32 + 1},
		{Kind: api.Info}, {Kind: api.Bye}, {Kind: api.BadLine}, {Kind: api.Continue},
		{Kind: api.Info, Text: "\r\n"}, {Kind: api.Bye, Text: "x\n"}, {Kind: api.BadLine, Text: "\x00"}, {Kind: api.Continue, Text: "x\x80y"},
		{Kind: api.Tagged}, {Kind: api.Tagged, Tag: "a"}, {Kind: api.Tagged, Text: "x"}, {Kind: api.Tagged, Tag: "a b", Text: "x"}, {Kind: api.Tagged, Tag: "+", Text: "x"}, {Kind: api.Tagged, Tag: "*", Text: "x"},
		{Kind: api.Tagged, Tag: "a", Text: "x\r\n"}, {Kind: api.Tagged, Tag: "a", Status: 3, Text: "x"}, {Kind: api.Tagged, Tag: "a", Status: -1, Text: "x"},
		{Kind: api.Tagged, Tag: "a", Status: math.MinInt, Text: "x"}, {Kind: api.Tagged, Tag: "a", Status: math.MaxInt, Text: "x"},
		{Kind: api.Fetched}, {Kind: api.Fetched, N: 1}, {Kind: api.Fetched, Flags: 1}, {Kind: api.Fetched, UID: 1}, {Kind: api.Fetched, Size: 1}, {Kind: api.Fetched, Body: []byte("x")},
		{Kind: api.Fetched, Items: api.ItemPeek}, {Kind: api.Fetched, Items: api.ItemPeek, Body: []byte("x")}, {Kind: api.Fetched, Items: api.ItemFlags | api.ItemPeek}, {Kind: api.Fetched, Items: 31},
		{Kind: api.Fetched, Items: 32}, {Kind: api.Fetched, Items: 33}, {Kind: api.Fetched, Items: -1}, {Kind: api.Fetched, Items: math.MinInt}, {Kind: api.Fetched, Items: math.MinInt | 1}, {Kind: api.Fetched, Items: math.MaxInt}, {Kind: api.Fetched, Items: 1<<32 + 1},
		{Kind: api.Fetched, Items: api.ItemFlags, Flags: 32}, {Kind: api.Fetched, Items: api.ItemFlags, Flags: 255},
	} {
		refuse(t, r)
	}
}

// Each combination of fields is tried with each kind.
func TestFields(t *testing.T) {
	count := 0
	for kind := -1; kind <= 12; kind++ {
		for which := range 1 << 8 {
			for _, items := range []int{0, 1, 2, 3, 4, 6, 7, 8, 16, 17, 20, 23, 31} {
				r := res{Kind: kind, Items: items}
				for i, set := range []func(){
					func() { r.N = 5 }, func() { r.Tag = "a" }, func() { r.Status = 1 }, func() { r.Text = "x" },
					func() { r.Flags = 8 }, func() { r.UID = 6 }, func() { r.Size = 7 }, func() { r.Body = []byte("b") },
				} {
					if which>>i&1 == 1 {
						set()
					}
				}
				if check(t, r) {
					count++
				}
			}
		}
	}
	// Each kind but Fetched has one with all of its fields; those with an N or a Status also have one in which it is zero.
	others := 3*2 + 1 + 4 + 2
	// Each of the fields of N and of the items may be zero.
	if want := others + 2*(4*2+4*4+8+16); count != want {
		t.Errorf("%d responses are valid, want %d", count, want)
	}
}

// The least values of the fields that do not belong to a kind make a response invalid, too.
func TestFieldsOfOtherKinds(t *testing.T) {
	ordinary := []res{1: {}, 2: {}, 3: {}, 4: {Items: 2}, 5: {}, 6: {Text: "x"}, 7: {Text: "x"}, 8: {Text: "x"}, 9: {Tag: "a", Text: "x"}, 10: {Text: "x"}}
	for kind := 1; kind <= 10; kind++ {
		base := ordinary[kind]
		base.Kind = kind
		if !check(t, base) {
			t.Errorf("%s is not tried", short(base))
		}
		for _, n := range numbers {
			for _, change := range []func(r *res){
				func(r *res) { r.N = n }, func(r *res) { r.UID = n }, func(r *res) { r.Size = n },
				func(r *res) { r.Status = int(n) }, func(r *res) { r.Status = -int(n) }, func(r *res) { r.Items = int(n) }, func(r *res) { r.Items = -int(n) },
				func(r *res) { r.Flags = api.Flags(n) }, func(r *res) { r.Body = make([]byte, n%100) },
				func(r *res) { r.Tag = strings.Repeat("b", int(n%100)) }, func(r *res) { r.Text = strings.Repeat(" ", int(n%100)) },
			} {
				r := base
				change(&r)
				check(t, r)
			}
		}
	}
}

// Each byte is tried in a tag and in a text.
func TestEachByte(t *testing.T) {
	for n := range 256 {
		for _, s := range []string{char(n), char(n) + "a", "a" + char(n), "a" + char(n) + "a", char(n) + char(n)} {
			for _, kind := range []int{6, 7, 8, 10} {
				check(t, res{Kind: kind, Text: s})
			}
			check(t, res{Kind: 9, Tag: "a", Status: n % 3, Text: s})
			check(t, res{Kind: 9, Tag: s, Status: n % 3, Text: "a"})
			check(t, res{Kind: 4, Items: 16, Body: []byte(s)})
		}
	}
}

func TestEverySum(t *testing.T) {
	for items := -70; items <= 70; items++ {
		for f := range 256 {
			r := res{Kind: 4, N: 2, Items: items, Flags: api.Flags(f), UID: 3, Size: 4, Body: []byte("x y")}
			check(t, r)
			// Only what is among the items stays.
			if items&1 == 0 {
				r.Flags = 0
			}
			if items&2 == 0 {
				r.UID = 0
			}
			if items&4 == 0 {
				r.Size = 0
			}
			if items&16 == 0 {
				r.Body = nil
			}
			check(t, r)
		}
	}
}

func TestPrintOfNumbers(t *testing.T) {
	for _, n := range numbers {
		for kind := 1; kind <= 3; kind++ {
			check(t, res{Kind: kind, N: n})
		}
		check(t, res{Kind: 4, N: n, Items: 1})
		check(t, res{Kind: 4, Items: 2, UID: n})
		check(t, res{Kind: 4, Items: 4, Size: n})
		check(t, res{Kind: 4, N: n, Items: 6, UID: ^n, Size: n})
	}
}

// A text and a tag may have any number of bytes, a body as many as a literal.
func TestLongParts(t *testing.T) {
	for _, n := range []int{1, 9, 10, 8191, 8192, 8193, mostLiteral - 1, mostLiteral, mostLiteral + 1, mostLiteral * 2} {
		for _, kind := range []int{6, 7, 8, 10} {
			check(t, res{Kind: kind, Text: strings.Repeat("x", n)})
			check(t, res{Kind: kind, Text: strings.Repeat("x", n) + "\n"})
		}
		check(t, res{Kind: 9, Tag: strings.Repeat("a", n), Text: "x"})
		check(t, res{Kind: 9, Tag: strings.Repeat("a", n) + "+", Text: "x"})
		check(t, res{Kind: 9, Tag: "a", Text: strings.Repeat(" ", n)})
		for _, part := range []string{"x", "\r\n", "\x00\xff", "* 1 EXISTS\r\n"} {
			body := []byte(strings.Repeat(part, n)[:n])
			if ok := check(t, res{Kind: 4, Items: 16, Body: body}); ok != (n <= mostLiteral) {
				t.Errorf("a body of %d bytes is tried as valid: %v", n, ok)
			}
			check(t, res{Kind: 4, Items: 23, Flags: 31, UID: 1, Size: uint32(n), Body: body})
		}
	}
}

// The size is a field of its own, even next to the body.
func TestSizeNeedNotBeThatOfTheBody(t *testing.T) {
	expect(t, res{Kind: 4, Items: 20, Size: 9, Body: []byte("x")}, "* 0 FETCH (RFC822.SIZE 9 BODY[] {1}\r\nx)\r\n")
	expect(t, res{Kind: 4, Items: 20, Body: []byte("x")}, "* 0 FETCH (RFC822.SIZE 0 BODY[] {1}\r\nx)\r\n")
}

// some returns responses of all kinds.
func some() []res {
	return []res{
		{Kind: 5},
		{Kind: 1, N: 3},
		{Kind: 2},
		{Kind: 6, Text: "[UIDNEXT 4] x"},
		{Kind: 4, N: 1, Items: 23, Flags: 9, UID: 2, Size: 4, Body: []byte("b\r\n)")},
		{Kind: 10, Text: "go"},
		{Kind: 4, N: 2, Items: 16},
		{Kind: 3, N: 2},
		{Kind: 8, Text: "x y"},
		{Kind: 9, Tag: "a", Status: 1, Text: "no"},
		{Kind: 7, Text: "bye"},
		{Kind: 9, Tag: "b", Text: "OK"},
	}
}

// bad returns responses that are not valid.
func bad() []res {
	return []res{{}, {Kind: 11}, {Kind: 1, Text: "x"}, {Kind: 4}, {Kind: 4, Items: 8}, {Kind: 4, Items: 16, Body: make([]byte, mostLiteral+1)}, {Kind: 6}, {Kind: 9, Tag: "a"}, {Kind: 9, Tag: "+", Text: "x"}, {Kind: 10, Text: "\r\n"}}
}

func TestAll(t *testing.T) {
	for from := range some() {
		for to := from; to <= len(some()); to++ {
			l := some()[from:to]
			want := ""
			for _, r := range l {
				want += written(r)
			}
			if b := resp.All(l...); string(b) != want {
				t.Errorf("All of %d to %d = %q, want %q", from, to, b, want)
			}
		}
	}
	if b := resp.All(); len(b) > 0 {
		t.Errorf("All() = %q", b)
	}
	if b := resp.All(bad()...); len(b) > 0 {
		t.Errorf("All of invalid responses = %.200q", b)
	}
}

func TestAllKeepsTheOrder(t *testing.T) {
	for _, a := range some() {
		for _, b := range some() {
			want := written(a) + written(b) + written(a)
			if got := resp.All(a, b, a); string(got) != want {
				t.Errorf("All = %q, want %q", got, want)
			}
		}
	}
}

func TestAllLeavesOutInvalidResponses(t *testing.T) {
	want := ""
	for _, r := range some() {
		want += written(r)
	}
	for _, r := range bad() {
		for at := range len(some()) + 1 {
			if b := resp.All(slices.Insert(some(), at, r)...); string(b) != want {
				t.Errorf("All with %s at %d = %.300q", short(r), at, b)
			}
			if b := resp.All(slices.Insert(some(), at, r, r)...); string(b) != want {
				t.Errorf("All with %s twice at %d = %.300q", short(r), at, b)
			}
		}
	}
}

// P9.2

// different returns responses no two of which are the same.
func different() []res {
	l := append(some(), bad()...)
	for _, r := range []res{
		{Kind: 1}, {Kind: -1}, {Kind: math.MaxInt}, {N: 1}, {N: math.MaxUint32}, {Tag: "a"}, {Tag: "A"}, {Tag: "ab"}, {Tag: "\x00"}, {Status: 1}, {Status: -1}, {Status: math.MinInt},
		{Text: "a"}, {Text: "b"}, {Text: "a "}, {Items: 1}, {Items: 2}, {Items: -1}, {Flags: 1}, {Flags: 2}, {Flags: 128}, {Flags: 255}, {UID: 1}, {UID: math.MaxUint32}, {Size: 1}, {Size: math.MaxUint32},
		{Body: []byte("a")}, {Body: []byte("b")}, {Body: []byte("ab")}, {Body: []byte{0}}, {Body: []byte{0, 0}},
		{Kind: 4, N: 1, Tag: "a", Status: 1, Text: "x", Items: 1, Flags: 1, UID: 1, Size: 1, Body: []byte("x")},
	} {
		l = append(l, r)
	}
	return l
}

func TestSame(t *testing.T) {
	first, second := different(), different()
	for i, a := range first {
		for j, b := range second {
			if got := resp.Same(a, b); got != (i == j) {
				t.Errorf("Same(%s, %s) = %v", short(a), short(b), got)
			}
		}
	}
}

// A response with all fields differs from itself with a change of any of them.
func TestSameOfEachField(t *testing.T) {
	full := res{Kind: 1, N: 2, Tag: "a", Status: 3, Text: "b", Items: 4, Flags: 5, UID: 6, Size: 7, Body: []byte("c")}
	for i, change := range []func(r *res){
		func(r *res) { r.Kind++ }, func(r *res) { r.Kind = 0 }, func(r *res) { r.N++ }, func(r *res) { r.N = 0 }, func(r *res) { r.Tag = "A" }, func(r *res) { r.Tag = "" },
		func(r *res) { r.Status++ }, func(r *res) { r.Status = 0 }, func(r *res) { r.Text = "B" }, func(r *res) { r.Text = "" }, func(r *res) { r.Items++ }, func(r *res) { r.Items = 0 },
		func(r *res) { r.Flags++ }, func(r *res) { r.Flags = 0 }, func(r *res) { r.UID++ }, func(r *res) { r.UID = 0 }, func(r *res) { r.Size++ }, func(r *res) { r.Size = 0 },
		func(r *res) { r.Body = []byte("C") }, func(r *res) { r.Body = nil }, func(r *res) { r.Body = []byte{} }, func(r *res) { r.Body = []byte("c\x00") },
	} {
		r := full
		change(&r)
		if resp.Same(full, r) || resp.Same(r, full) {
			t.Errorf("change %d: %s is the same", i, short(r))
		}
		if !resp.Same(full, full) || !resp.Same(r, r) {
			t.Errorf("change %d: %s is not the same as itself", i, short(r))
		}
	}
}

func TestSameOfEmptyBodies(t *testing.T) {
	for _, r := range []res{{}, {Kind: 4, Items: 16, N: 1}, {Kind: 1, N: 5}} {
		empty, cut := r, r
		empty.Body, cut.Body = []byte{}, []byte("x")[:0]
		for _, a := range []res{r, empty, cut} {
			for _, b := range []res{r, empty, cut} {
				if !resp.Same(a, b) {
					t.Errorf("Same(%s, %s) is false", short(a), short(b))
				}
			}
			check(t, a)
		}
	}
}

func TestSameOfLongBodies(t *testing.T) {
	a, b := make([]byte, mostLiteral*2), make([]byte, mostLiteral*2)
	if !resp.Same(res{Body: a}, res{Body: b}) {
		t.Error("equal bodies differ")
	}
	for _, at := range []int{0, 1, mostLiteral - 1, mostLiteral, mostLiteral*2 - 1} {
		b[at] = 1
		if resp.Same(res{Body: a}, res{Body: b}) {
			t.Errorf("bodies that differ at %d are the same", at)
		}
		b[at] = 0
	}
}

// P9.3

func TestCount(t *testing.T) {
	for kind := -2; kind <= 12; kind++ {
		for _, n := range numbers {
			want := res{Kind: kind, N: n}
			if r := resp.Count(kind, int(n)); fields(r) != fields(want) {
				t.Errorf("Count(%d, %d) = %s", kind, n, fields(r))
			}
		}
	}
	for _, kind := range []int{math.MinInt, math.MaxInt, 1 << 32} {
		if r := resp.Count(kind, 1); fields(r) != fields(res{Kind: kind, N: 1}) {
			t.Errorf("Count(%d, 1) = %s", kind, fields(r))
		}
	}
	expect(t, resp.Count(api.Exists, 0), "* 0 EXISTS\r\n")
	expect(t, resp.Count(api.Recent, 4096), "* 4096 RECENT\r\n")
	expect(t, resp.Count(api.Expunged, 1<<32-1), "* 4294967295 EXPUNGE\r\n")
	refuse(t, resp.Count(api.Info, 1))
	refuse(t, resp.Count(api.Tagged, 0))
}

func TestReply(t *testing.T) {
	for _, tag := range []string{"", "a", "A1", "]", "a b", "+", "\r\n", "\xff", strings.Repeat("a", mostLiteral)} {
		for _, status := range []int{api.StatusOK, api.StatusNO, api.StatusBAD, 3, -1, math.MinInt, math.MaxInt} {
			for _, text := range []string{"", "x", "x y", "OK", " ", "\r\n", "\xff", strings.Repeat("x", mostLiteral)} {
				r := resp.Reply(tag, status, text)
				if want := (res{Kind: 9, Tag: tag, Status: status, Text: text}); fields(r) != fields(want) {
					t.Errorf("Reply(%.50q, %d, %.50q) = %s", tag, status, text, short(r))
				}
				check(t, r)
			}
		}
	}
	expect(t, resp.Reply("a", api.StatusNO, "b c"), "a NO b c\r\n")
}

// P9.4

// messageOf returns what Message is to return.
func messageOf(seq, items int, m api.Message) res {
	r := res{Kind: 4, N: uint32(seq)}
	for _, x := range []struct {
		asked, item int
		set         func()
	}{
		{1, 1, func() { r.Flags = m.Flags }},
		{2, 2, func() { r.UID = m.UID }},
		{4, 4, func() { r.Size = uint32(len(m.Body)) }},
		{8 + 16, 16, func() { r.Body = m.Body }},
	} {
		if items&x.asked != 0 {
			r.Items += x.item
			x.set()
		}
	}
	return r
}

// messages returns messages with ordinary and other fields.
func messages() []api.Message {
	return []api.Message{
		{}, {UID: 7, Flags: api.Seen, Body: []byte("x\r\n")}, {UID: math.MaxUint32, Flags: api.AllFlags, Body: []byte{0}}, {UID: 1, Body: []byte{}}, {Flags: 32, Body: []byte("x")}, {UID: 5, Flags: 255, Body: []byte(") {1}\r\n\xff")},
		{UID: 2, Flags: 16, Body: make([]byte, mostLiteral)}, {UID: 3, Flags: 1, Body: make([]byte, mostLiteral+1)}, {UID: 4, Body: []byte("0123456789")[:4]},
	}
}

func TestMessage(t *testing.T) {
	for _, seq := range numbers {
		for items := range 32 {
			for _, m := range messages() {
				r, want := resp.Message(int(seq), items, m), messageOf(int(seq), items, m)
				if r.Kind != 4 || r.N != seq || r.Items != want.Items || r.Flags != want.Flags || r.UID != want.UID || r.Size != want.Size || !bytes.Equal(r.Body, want.Body) || r.Tag != "" || r.Status != 0 || r.Text != "" {
					t.Errorf("Message(%d, %d, ..) = %s, want %s", seq, items, short(r), short(want))
				}
			}
		}
	}
}

func TestMessagesAreValid(t *testing.T) {
	for items := range 32 {
		for i, m := range messages() {
			r := resp.Message(i, items, m)
			// Flags that are none and bodies that are too long are left as they are.
			fits := (items&1 == 0 || m.Flags < 32) && (items&24 == 0 || len(m.Body) <= mostLiteral)
			if ok := check(t, r); ok != (items > 0 && fits) {
				t.Errorf("Message(%d, %d, ..) is valid: %v", i, items, ok)
			}
		}
	}
}

func TestFormsOfMessages(t *testing.T) {
	m := api.Message{UID: 7, Flags: api.Seen | api.Answered, Body: []byte("a b")}
	for items, want := range map[int]string{
		1:  `(FLAGS (\Answered \Seen))`,
		2:  "(UID 7)",
		4:  "(RFC822.SIZE 3)",
		8:  "(BODY[] {3}\r\na b)",
		16: "(BODY[] {3}\r\na b)",
		24: "(BODY[] {3}\r\na b)",
		10: "(UID 7 BODY[] {3}\r\na b)",
		7:  `(FLAGS (\Answered \Seen) UID 7 RFC822.SIZE 3)`,
		12: "(RFC822.SIZE 3 BODY[] {3}\r\na b)",
		31: "(FLAGS (\\Answered \\Seen) UID 7 RFC822.SIZE 3 BODY[] {3}\r\na b)",
	} {
		expect(t, resp.Message(4, items, m), "* 4 FETCH "+want+"\r\n")
	}
	refuse(t, resp.Message(4, 0, m))
}

func TestMessageCopiesTheBody(t *testing.T) {
	for _, items := range []int{8, 16, 24, 31} {
		memory := []byte("body and more")
		m := api.Message{UID: 1, Body: memory[:4]}
		first, second := resp.Message(1, items, m), resp.Message(1, items, m)
		clear(first.Body[:cap(first.Body)])
		if string(memory) != "body and more" {
			t.Errorf("items %d: a change of the result changes the message: %q", items, memory)
		}
		if string(second.Body) != "body" {
			t.Errorf("items %d: results share memory: %q", items, second.Body)
		}
		clear(memory)
		if string(second.Body) != "body" {
			t.Errorf("items %d: a change of the message changes the result: %q", items, second.Body)
		}
	}
}

// P9.5

func TestSameFormsAreOfSameResponses(t *testing.T) {
	texts := []string{"x", "OK", "OK x", "BYE x", "BAD x", "NO x", "1 EXISTS", "FLAGS " + allFlags, "+", "+ x", "* OK x", "a OK x", " x", "x ", " "}
	tags := []string{"a", "OK", "NO", "BAD", "BYE", "FLAGS", "1", "b", "A"}
	statuses := []int{0, 1, 2}
	var l []res
	for kind := -1; kind <= 11; kind++ {
		for _, n := range numbers {
			l = append(l, res{Kind: kind, N: n})
		}
		for _, text := range texts {
			l = append(l, res{Kind: kind, Text: text})
			for _, tag := range tags {
				for _, status := range statuses {
					l = append(l, res{Kind: kind, Tag: tag, Status: status, Text: text})
				}
			}
		}
	}
	for items := range 32 {
		for _, n := range []uint32{0, 1, 12} {
			for _, f := range []api.Flags{0, 1, 2, 8, 31} {
				for _, body := range []string{"", "x", ")", "{1}\r\nx", ")\r\n* 1 EXISTS"} {
					l = append(l, res{Kind: 4, N: n, Items: items, Flags: f, UID: n + 1, Size: n, Body: []byte(body)})
					r := resp.Message(int(n), items, api.Message{UID: n + 2, Flags: f, Body: []byte(body)})
					l = append(l, r)
					r.Size = 5
					l = append(l, r)
				}
			}
		}
	}
	seen := map[string]res{}
	for _, r := range l {
		b, ok := resp.Print(r)
		if !ok {
			continue
		}
		if old, found := seen[string(b)]; found && (!resp.Same(old, r) || fields(old) != fields(r)) {
			t.Errorf("%s and %s have the form %q", short(old), short(r), b)
		}
		seen[string(b)] = r
	}
	if len(seen) < 1000 {
		t.Errorf("only %d forms are tried", len(seen))
	}
}

// P1 and P2

// No results are specified for these numbers, but the calls end.
func TestNumbersBeyondTheirRanges(t *testing.T) {
	for _, n := range []int{math.MinInt, -1 << 32, -1, 1 << 32, 1<<32 + 1, math.MaxInt} {
		resp.Print(resp.Count(api.Exists, n))
		resp.Print(resp.Count(n, n))
		for _, items := range []int{math.MinInt, -1, 0, 31, 32, 1 << 32, math.MaxInt} {
			resp.Print(resp.Message(n, items, messages()[1]))
			resp.Print(resp.Message(1, items, messages()[1]))
		}
	}
}

func TestBytesBeyondTheLengthAreNotRead(t *testing.T) {
	memory := []byte("0123456789")
	expect(t, res{Kind: 4, Items: 16, Body: memory[:2]}, "* 0 FETCH (BODY[] {2}\r\n01)\r\n")
	expect(t, res{Kind: 1, Body: memory[:0]}, "* 0 EXISTS\r\n")
	expect(t, resp.Message(1, 20, api.Message{Body: memory[:3]}), "* 1 FETCH (RFC822.SIZE 3 BODY[] {3}\r\n012)\r\n")
	if !resp.Same(res{Body: memory[:2]}, res{Body: []byte("01")}) {
		t.Error("equal bodies differ")
	}
	if string(memory) != "0123456789" {
		t.Errorf("the memory of an argument is modified: %q", memory)
	}
	l := some()
	want := fmt.Sprint(l)
	resp.All(l[:2]...)
	if fmt.Sprint(l) != want {
		t.Error("elements beyond the length are modified")
	}
}

func TestMemory(t *testing.T) {
	l := some()
	before := fmt.Sprint(l)
	first, second := resp.All(l...), resp.All(l...)
	one, _ := resp.Print(l[4])
	other, _ := resp.Print(l[4])
	single := resp.All(l[4])
	want, wantOne := string(second), string(other)
	clear(first[:cap(first)])
	clear(one[:cap(one)])
	if string(second) != want || string(other) != wantOne || string(single) != wantOne {
		t.Errorf("results share memory: %q, %q, %q", second, other, single)
	}
	if fmt.Sprint(l) != before {
		t.Errorf("the arguments are modified: %v", l)
	}
	clear(l[4].Body)
	clear(l)
	if string(second) != want || string(other) != wantOne || string(single) != wantOne {
		t.Errorf("a change of the arguments changes a result: %q, %q, %q", second, other, single)
	}
}

func TestConcurrentCalls(t *testing.T) {
	var group sync.WaitGroup
	for range 8 {
		group.Go(func() {
			for range 50 {
				for _, r := range append(some(), bad()...) {
					check(t, r)
				}
				r := resp.Message(2, 3, api.Message{UID: 7, Flags: api.Seen})
				expect(t, r, "* 2 FETCH (FLAGS (\\Seen) UID 7)\r\n")
				if !resp.Same(r, res{Kind: 4, N: 2, Items: 3, Flags: 8, UID: 7}) {
					t.Error("a concurrent call has another result")
				}
			}
		})
	}
	group.Wait()
}
