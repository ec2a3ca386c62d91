package seqset_test

import (
	"math"
	"regexp"
	"slices"
	"strconv"
	"strings"
	"sync"
	"testing"

	"cubbyhole/api"
	"cubbyhole/seqset"
)

const most = math.MaxUint32

// texts calls f with every string of up to size letters of an alphabet.
func texts(alphabet string, size int, f func(s string)) {
	f("")
	if size == 0 {
		return
	}
	texts(alphabet, size-1, func(s string) {
		if len(s) == size-1 {
			for _, c := range []byte(alphabet) {
				f(s + string(c))
			}
		} else if s != "" {
			f(s)
		}
	})
}

// sets calls f with every set of up to size ranges whose Lo and Hi are among some numbers.
func sets(numbers []uint32, size int, f func(l []api.Range)) {
	f(nil)
	if size == 0 {
		return
	}
	sets(numbers, size-1, func(l []api.Range) {
		for _, lo := range numbers {
			for _, hi := range numbers {
				f(append(slices.Clone(l), api.Range{Lo: lo, Hi: hi}))
			}
		}
	})
}

// P2.1

func TestParse(t *testing.T) {
	long := strings.Repeat("7,*:9,", 1<<14) + "1"
	longSet := slices.Repeat([]api.Range{{Lo: 7, Hi: 7}, {Lo: 0, Hi: 9}}, 1<<14)
	for s, want := range map[string][]api.Range{
		"1":                     {{Lo: 1, Hi: 1}},
		"10":                    {{Lo: 10, Hi: 10}},
		"*":                     {{}},
		"2:4":                   {{Lo: 2, Hi: 4}},
		"4:2":                   {{Lo: 4, Hi: 2}},
		"3:3":                   {{Lo: 3, Hi: 3}},
		"*:*":                   {{}},
		"5:*":                   {{Lo: 5}},
		"*:5":                   {{Hi: 5}},
		"5:*,2":                 {{Lo: 5}, {Lo: 2, Hi: 2}},
		"2,1,2":                 {{Lo: 2, Hi: 2}, {Lo: 1, Hi: 1}, {Lo: 2, Hi: 2}},
		"1:2,2:3,*,3:3":         {{Lo: 1, Hi: 2}, {Lo: 2, Hi: 3}, {}, {Lo: 3, Hi: 3}},
		"4294967295":            {{Lo: most, Hi: most}},
		"4294967295:1":          {{Lo: most, Hi: 1}},
		"1:4294967294":          {{Lo: 1, Hi: most - 1}},
		"4294967295:*,*:100000": {{Lo: most}, {Hi: 100000}},
		long:                    append(longSet, api.Range{Lo: 1, Hi: 1}),
	} {
		if l, ok := seqset.Parse(s); !slices.Equal(l, want) || !ok {
			t.Errorf("Parse(%.30q) = %v, %v", s, l, ok)
		}
	}
}

func TestParseNoSet(t *testing.T) {
	for _, s := range []string{
		"", ",", ",,", ":", "::", // no numbers
		"1,", ",1", "1,,2", "1:", ":1", "*:", ":*", "1:,2", "1,:2", // parts that lack something
		"1:2:3", "1::2", "**", "1*", "*1", "1:*:", "*:*:*", // parts that have too much
		"0", "0:0", "1:0", "0:1", "0:*", "*:0", "1,0", "0,1", "1:2,3:0", // the number 0
		"00", "01", "1:02", "01:2", "1,007", // leading zeros
		"4294967296", "1:4294967296", "4294967296:1", "1,99999999999999999999", strings.Repeat("9", 9000),
		"+1", "-1", "1-2", "1;2", "1.0", "1e3", "0x1", "1_0", "a", "a:b", "1:x", // other bytes
		" 1", "1 ", "1, 2", "1 :2", "1\r\n", "\x00", "1\x00", "(1)", "\"1\"", "$",
		"\u0661", "1\u060c2", "\xff", "1,\xff",
		strings.Repeat("1,", 1<<14), "," + strings.Repeat("1,", 1<<14) + "1",
	} {
		if l, ok := seqset.Parse(s); len(l) != 0 || ok {
			t.Errorf("Parse(%.30q) = %v, %v", s, l, ok)
		}
	}
}

func TestParseOfShortStrings(t *testing.T) {
	syntax := regexp.MustCompile(`^(\*|[1-9][0-9]*)(:(\*|[1-9][0-9]*))?(,(\*|[1-9][0-9]*)(:(\*|[1-9][0-9]*))?)*$`)
	texts("012*:, ", 6, func(s string) {
		if l, ok := seqset.Parse(s); ok != syntax.MatchString(s) || ok == (len(l) == 0) || ok && len(l) != strings.Count(s, ",")+1 {
			t.Errorf("Parse(%q) = %v, %v", s, l, ok)
		}
	})
}

func TestParseOfEachByte(t *testing.T) {
	for n := range 256 {
		c := string([]byte{byte(n)})
		for s, more := range map[string]string{c: "*", "1" + c: "0", "1" + c + "2": "0:,", c + "2": ""} {
			if l, ok := seqset.Parse(s); ok != (strings.Contains(more, c) || c >= "1" && c <= "9") {
				t.Errorf("Parse(%q) = %v, %v", s, l, ok)
			}
		}
	}
}

func TestPrint(t *testing.T) {
	for want, l := range map[string][]api.Range{
		"":                 {},
		"*":                {{}},
		"1":                {{Lo: 1, Hi: 1}},
		"1:2":              {{Lo: 1, Hi: 2}},
		"2:1":              {{Lo: 2, Hi: 1}},
		"*:1":              {{Hi: 1}},
		"1:*":              {{Lo: 1}},
		"*,*":              {{}, {}},
		"3,1:2,3,*":        {{Lo: 3, Hi: 3}, {Lo: 1, Hi: 2}, {Lo: 3, Hi: 3}, {}},
		"1,2,3:4":          {{Lo: 1, Hi: 1}, {Lo: 2, Hi: 2}, {Lo: 3, Hi: 4}},
		"4294967295":       {{Lo: most, Hi: most}},
		"4294967295:*,100": {{Lo: most}, {Lo: 100, Hi: 100}},
	} {
		if got := seqset.Print(l...); got != want {
			t.Errorf("Print(%v) = %q", l, got)
		}
	}
	if got := seqset.Print(); got != "" {
		t.Errorf("Print() = %q", got)
	}
}

// P2.2

// naive returns the numbers of a set, and whether it is valid, as the chapter's sentences give them. It asks each number up to top.
func naive(top uint32, l []api.Range) ([]uint32, bool) {
	valid := top > 0 && len(l) > 0
	for _, r := range l {
		valid = valid && r.Lo <= top && r.Hi <= top
	}
	var numbers []uint32
	for n := uint32(1); valid && n <= top; n++ {
		if slices.ContainsFunc(l, func(r api.Range) bool {
			if r.Lo == 0 {
				r.Lo = top
			}
			if r.Hi == 0 {
				r.Hi = top
			}
			return r.Lo <= n && n <= r.Hi || r.Hi <= n && n <= r.Lo
		}) {
			numbers = append(numbers, n)
		}
	}
	return numbers, valid
}

func check(t *testing.T, top uint32, l []api.Range) {
	t.Helper()
	want, valid := naive(top, l)
	before := slices.Clone(l)
	if got := seqset.Valid(top, l...); got != valid {
		t.Errorf("Valid(%d, %v) = %v", top, l, got)
	}
	if got := seqset.Numbers(top, l...); !slices.Equal(got, want) {
		t.Errorf("Numbers(%d, %v) = %v", top, l, got)
	}
	for n := range top + 3 {
		if got := seqset.Has(top, n, l...); got != slices.Contains(want, n) {
			t.Errorf("Has(%d, %d, %v) = %v", top, n, l, got)
		}
	}
	if !slices.Equal(l, before) {
		t.Errorf("the set %v became %v", before, l)
	}
}

func TestNumbersOfSmallSets(t *testing.T) {
	sets([]uint32{0, 1, 2, 3, 4, 5}, 2, func(l []api.Range) {
		for top := range uint32(7) {
			check(t, top, l)
		}
	})
	sets([]uint32{0, 2, 5, 6}, 3, func(l []api.Range) {
		for _, top := range []uint32{0, 1, 5, 6, 9} {
			check(t, top, l)
		}
	})
}

func TestNumbersOfExample(t *testing.T) {
	l := []api.Range{{Lo: 5}, {Lo: 2, Hi: 2}}
	if got := seqset.Numbers(7, l...); !slices.Equal(got, []uint32{2, 5, 6, 7}) {
		t.Error(got)
	}
	if got := seqset.Numbers(5, l...); !slices.Equal(got, []uint32{2, 5}) {
		t.Error(got)
	}
	if got := seqset.Numbers(4, l...); len(got) != 0 || seqset.Valid(4, l...) || seqset.Has(4, 2, l...) {
		t.Error(got)
	}
}

func TestNoNumbers(t *testing.T) {
	for _, x := range []struct {
		top uint32
		l   []api.Range
	}{
		{0, nil},
		{1, nil},
		{most, nil},
		{5, []api.Range{}},
		{0, []api.Range{{}}},
		{0, []api.Range{{Lo: 1, Hi: 1}}},
		{0, []api.Range{{Lo: most, Hi: most}}},
		{3, []api.Range{{Lo: 4, Hi: 4}}},
		{3, []api.Range{{Lo: 4, Hi: 1}}},
		{3, []api.Range{{Lo: 1, Hi: 4}}},
		{3, []api.Range{{Lo: 4}}},
		{3, []api.Range{{Hi: 4}}},
		{3, []api.Range{{Lo: 1, Hi: 2}, {Lo: 3, Hi: 4}}},
		{3, []api.Range{{Lo: most, Hi: most}, {Lo: 1, Hi: 2}}},
		{most - 1, []api.Range{{}, {Lo: most, Hi: most}}},
	} {
		if seqset.Valid(x.top, x.l...) {
			t.Errorf("Valid(%d, %v)", x.top, x.l)
		}
		if got := seqset.Numbers(x.top, x.l...); len(got) != 0 {
			t.Errorf("Numbers(%d, %v) has %d", x.top, x.l, len(got))
		}
		for _, n := range []uint32{0, 1, 2, 3, 4, most - 1, most} {
			if seqset.Has(x.top, n, x.l...) {
				t.Errorf("Has(%d, %d, %v)", x.top, n, x.l)
			}
		}
	}
}

func TestManyNumbers(t *testing.T) {
	const top = 1 << 20
	// So many ranges that one that goes through all of them number by number takes hours.
	all := slices.Repeat([]api.Range{{Lo: 1}, {Lo: top, Hi: 1}, {Lo: 1 << 19}, {}}, 1<<15)
	got := seqset.Numbers(top, all...)
	if len(got) != top || !slices.IsSorted(got) || got[0] != 1 || got[top-1] != top || len(slices.Compact(got)) != top {
		t.Errorf("%d numbers", len(got))
	}
	var odd []api.Range
	for n := uint32(top - 1); n > 1; n -= 2 {
		odd = append(odd, api.Range{Lo: n, Hi: n})
	}
	got = seqset.Numbers(top, append(odd, odd...)...)
	if len(got) != top/2-1 {
		t.Fatalf("%d odd numbers", len(got))
	}
	for i, n := range got {
		if n != uint32(i)*2+3 {
			t.Fatalf("number %d is %d", i, n)
		}
	}
}

func TestGreatestTop(t *testing.T) {
	for _, x := range []struct {
		n    uint32
		l    []api.Range
		want bool
	}{
		{most, []api.Range{{}}, true},
		{most - 1, []api.Range{{}}, false},
		{most, []api.Range{{Lo: 5}}, true},
		{5, []api.Range{{Lo: 5}}, true},
		{1 << 31, []api.Range{{Hi: 5}}, true},
		{4, []api.Range{{Hi: 5}}, false},
		{0, []api.Range{{Lo: 1}}, false},
		{0, []api.Range{{Lo: most}}, false},
		{1, []api.Range{{Lo: most}}, false},
		{most, []api.Range{{Lo: 7, Hi: 8}, {Lo: most, Hi: most}}, true},
		{9, []api.Range{{Lo: 7, Hi: 8}, {Lo: most, Hi: most}}, false},
	} {
		if got := seqset.Has(most, x.n, x.l...); got != x.want || !seqset.Valid(most, x.l...) {
			t.Errorf("Has(2^32 - 1, %d, %v) = %v", x.n, x.l, got)
		}
	}
}

// P2.3

func TestOf(t *testing.T) {
	for _, x := range []struct {
		l    []uint32
		want []api.Range
	}{
		{nil, nil},
		{[]uint32{0}, nil},
		{[]uint32{0, 0, 0}, nil},
		{[]uint32{1}, []api.Range{{Lo: 1, Hi: 1}}},
		{[]uint32{0, 1}, []api.Range{{Lo: 1, Hi: 1}}},
		{[]uint32{3, 1, 2, 7}, []api.Range{{Lo: 1, Hi: 3}, {Lo: 7, Hi: 7}}},
		{[]uint32{5, 5, 4, 0, 5}, []api.Range{{Lo: 4, Hi: 5}}},
		{[]uint32{1, 3, 5}, []api.Range{{Lo: 1, Hi: 1}, {Lo: 3, Hi: 3}, {Lo: 5, Hi: 5}}},
		{[]uint32{9, 8, 6, 5, 4, 2}, []api.Range{{Lo: 2, Hi: 2}, {Lo: 4, Hi: 6}, {Lo: 8, Hi: 9}}},
		{[]uint32{most}, []api.Range{{Lo: most, Hi: most}}},
		{[]uint32{most, 0, 1}, []api.Range{{Lo: 1, Hi: 1}, {Lo: most, Hi: most}}},
		{[]uint32{most, most - 1, most, 0}, []api.Range{{Lo: most - 1, Hi: most}}},
		{[]uint32{most, most - 2}, []api.Range{{Lo: most - 2, Hi: most - 2}, {Lo: most, Hi: most}}},
	} {
		before := slices.Clone(x.l)
		if got := seqset.Of(x.l...); !slices.Equal(got, x.want) {
			t.Errorf("Of(%v) = %v", x.l, got)
		}
		if !slices.Equal(x.l, before) {
			t.Errorf("the list %v became %v", before, x.l)
		}
	}
}

func TestOfSubsets(t *testing.T) {
	for bits := range uint32(1 << 11) {
		// The numbers are given in an order that is neither ascending nor descending, some of them twice, with 0 among them.
		var l []uint32
		for i := range uint32(22) {
			if n := i * 7 % 11; bits>>n&1 == 1 && (i < 11 || n%3 == 0) {
				l = append(l, n)
			}
		}
		var want []api.Range
		for n := uint32(1); n < 11; n++ {
			if bits>>n&1 == 0 {
				continue
			}
			if n > 1 && bits>>(n-1)&1 == 1 {
				want[len(want)-1].Hi = n
			} else {
				want = append(want, api.Range{Lo: n, Hi: n})
			}
		}
		if got := seqset.Of(l...); !slices.Equal(got, want) {
			t.Errorf("Of(%v) = %v", l, got)
		}
	}
}

func TestOfMany(t *testing.T) {
	const count = 1 << 18
	l := make([]uint32, 0, 2*count)
	for i := range uint32(count) {
		l = append(l, most-i, count-i)
	}
	want := []api.Range{{Lo: 1, Hi: count}, {Lo: most - count + 1, Hi: most}}
	if got := seqset.Of(l...); !slices.Equal(got, want) {
		t.Errorf("%d ranges", len(got))
	}
}

// P2.4

func TestParseInvertsPrint(t *testing.T) {
	sets([]uint32{0, 1, 10, 4096, most}, 3, func(l []api.Range) {
		got, ok := seqset.Parse(seqset.Print(l...))
		if ok != (len(l) > 0) || !slices.Equal(got, l) {
			t.Errorf("Parse(%q) = %v, %v", seqset.Print(l...), got, ok)
		}
	})
}

func TestPrintInvertsParse(t *testing.T) {
	for n := uint32(1); n < 1<<12; n++ {
		a := strconv.Itoa(int(n))
		b := strconv.FormatUint(uint64(most-n*1000), 10)
		for s, want := range map[string]string{a: a, b: b, a + ":" + b: "", a + "," + b: "", b + ":*," + a: "", a + ":" + a: a} {
			if want == "" {
				want = s
			}
			if l, ok := seqset.Parse(s); !ok || seqset.Print(l...) != want {
				t.Errorf("Parse(%q) = %v, %v", s, l, ok)
			}
		}
	}
}

func TestNumbersOfOf(t *testing.T) {
	for seed := range uint32(300) {
		l := make([]uint32, seed%40+1)
		for i := range l {
			l[i] = (seed*2654435761+uint32(i)*40503)%(seed+9) + 1
		}
		want := slices.Compact(slices.Sorted(slices.Values(l)))
		top := slices.Max(l)
		set := seqset.Of(l...)
		if got := seqset.Numbers(top, set...); !slices.Equal(got, want) || !seqset.Valid(top, set...) || seqset.Valid(top-1, set...) {
			t.Errorf("the numbers of %v are %v", set, got)
		}
	}
}

// P1 and P2

func TestResultsShareNoMemory(t *testing.T) {
	set := []api.Range{{Lo: 3, Hi: 2}, {Lo: 1, Hi: 1}}
	numbers := []uint32{3, 1}
	for range 2 {
		parsed, _ := seqset.Parse("4:5,*")
		of := seqset.Of(numbers...)
		got := seqset.Numbers(3, set...)
		if !slices.Equal(parsed, []api.Range{{Lo: 4, Hi: 5}, {}}) || !slices.Equal(of, []api.Range{{Lo: 1, Hi: 1}, {Lo: 3, Hi: 3}}) || !slices.Equal(got, []uint32{1, 2, 3}) {
			t.Error(parsed, of, got)
		}
		clear(parsed)
		clear(of)
		clear(got)
		if !slices.Equal(set, []api.Range{{Lo: 3, Hi: 2}, {Lo: 1, Hi: 1}}) || !slices.Equal(numbers, []uint32{3, 1}) {
			t.Error(set, numbers)
		}
	}
}

func TestBeyondTheLengthOfAnArgument(t *testing.T) {
	set := []api.Range{{Lo: 2, Hi: 2}, {Lo: 1, Hi: 1}, {Lo: 9, Hi: 9}}
	if got := seqset.Numbers(3, set[:2]...); !slices.Equal(got, []uint32{1, 2}) || !seqset.Valid(3, set[:2]...) {
		t.Error(got)
	}
	numbers := []uint32{2, 1, 9}
	if got := seqset.Of(numbers[:2]...); !slices.Equal(got, []api.Range{{Lo: 1, Hi: 2}}) {
		t.Error(got)
	}
	if set[2] != (api.Range{Lo: 9, Hi: 9}) || numbers[2] != 9 {
		t.Error(set, numbers)
	}
}

func TestConcurrentCalls(t *testing.T) {
	var all sync.WaitGroup
	set := []api.Range{{Lo: 5}, {Lo: 2, Hi: 2}}
	numbers := []uint32{3, 1, 2, 7}
	for range 8 {
		all.Go(func() {
			for range 200 {
				if !seqset.Has(7, 6, set...) || len(seqset.Numbers(7, set...)) != 4 || seqset.Print(set...) != "5:*,2" || len(seqset.Of(numbers...)) != 2 {
					t.Error("a concurrent call has another result")
				}
			}
		})
	}
	all.Wait()
}
