package resolve_test

import (
	"maps"
	"math"
	"slices"
	"sync"
	"testing"

	"cubbyhole/api"
	"cubbyhole/resolve"
	"cubbyhole/seqset"
	"cubbyhole/view"
)

// most is the greatest identifier.
const most = 4294967295

// nums returns numbers as a list.
func nums(l ...uint32) []uint32 { return l }

// span returns a range.
func span(lo, hi uint32) api.Range { return api.Range{Lo: lo, Hi: hi} }

// set returns ranges as a set.
func set(l ...api.Range) []api.Range { return l }

// upTo returns the numbers from 1 to n.
func upTo(n int) []int {
	var l []int
	for i := range n {
		l = append(l, i+1)
	}
	return l
}

// at returns the identifiers of a list with some sequence numbers.
func at(l []uint32, seqs []int) []uint32 {
	var found []uint32
	for _, seq := range seqs {
		found = append(found, l[seq-1])
	}
	return found
}

// covers reports whether a range has a number, for a greatest number.
func covers(r api.Range, top, n int) bool {
	lo, hi := int(r.Lo), int(r.Hi)
	if lo == 0 {
		lo = top
	}
	if hi == 0 {
		hi = top
	}
	return lo <= n && n <= hi || hi <= n && n <= lo
}

// wantSeqs returns what Seqs is to return for a view of so many messages, as the chapters' sentences give it.
func wantSeqs(top int, l []api.Range) ([]int, bool) {
	if top == 0 || len(l) == 0 {
		return nil, false
	}
	for _, r := range l {
		if int64(r.Lo) > int64(top) || int64(r.Hi) > int64(top) {
			return nil, false
		}
	}
	var seqs []int
	for n := 1; n <= top; n++ {
		for _, r := range l {
			if covers(r, top, n) {
				seqs = append(seqs, n)
				break
			}
		}
	}
	return seqs, true
}

// wantStripes returns what Stripes is to return.
func wantStripes(n int, uids []uint32) []int {
	var l []int
	for _, uid := range uids {
		if n > 0 {
			l = append(l, int(int64(uid)%int64(n)))
		}
	}
	slices.Sort(l)
	return slices.Compact(l)
}

// wantSet returns what Set is to return for a view of a list of identifiers.
func wantSet(l, uids []uint32) []api.Range {
	var ranges []api.Range
	for i, uid := range l {
		n := uint32(i + 1)
		if !slices.Contains(uids, uid) {
			continue
		}
		if last := len(ranges) - 1; last >= 0 && ranges[last].Hi == n-1 {
			ranges[last].Hi = n
		} else {
			ranges = append(ranges, span(n, n))
		}
	}
	return ranges
}

// checkSeqs compares what Seqs and UIDs return with what they are to return, for a view of a list of identifiers.
func checkSeqs(t *testing.T, v *view.View, l []uint32, ranges ...api.Range) {
	t.Helper()
	want, wantOK := wantSeqs(len(l), ranges)
	if got, ok := resolve.Seqs(v, ranges...); !slices.Equal(got, want) || ok != wantOK {
		t.Fatalf("of %d: Seqs(%v) = %d, %v, want %d, %v", l, ranges, got, ok, want, wantOK)
	}
	if got, ok := resolve.UIDs(v, ranges...); !slices.Equal(got, at(l, want)) || ok != wantOK {
		t.Fatalf("of %d: UIDs(%v) = %d, %v, want those of %d, %v", l, ranges, got, ok, want, wantOK)
	}
}

// checkSet compares what Set returns with what it is to return, and then what UIDs returns for it.
func checkSet(t *testing.T, v *view.View, l []uint32, uids ...uint32) {
	t.Helper()
	got, want := resolve.Set(v, uids...), wantSet(l, uids)
	if !slices.Equal(got, want) {
		t.Fatalf("of %d: Set(%d) = %v, want %v", l, uids, got, want)
	}
	var in []uint32
	for _, uid := range l {
		if slices.Contains(uids, uid) {
			in = append(in, uid)
		}
	}
	if back, ok := resolve.UIDs(v, got...); !slices.Equal(back, in) || ok != (len(in) > 0) {
		t.Fatalf("of %d: UIDs(%v) = %d, %v, want %d", l, got, back, ok, in)
	}
}

// checkSplit compares what Stripes and Split return with what they are to return.
func checkSplit(t *testing.T, n int, uids ...uint32) {
	t.Helper()
	want := wantStripes(n, uids)
	if got := resolve.Stripes(n, uids...); !slices.Equal(got, want) {
		t.Fatalf("Stripes(%d, %d) = %d, want %d", n, uids, got, want)
	}
	got := resolve.Split(n, uids...)
	if keys := slices.Sorted(maps.Keys(got)); !slices.Equal(keys, want) {
		t.Fatalf("Split(%d, %d) has the stripes %d, not %d", n, uids, keys, want)
	}
	for _, k := range want {
		var in []uint32
		for _, uid := range uids {
			if int64(uid)%int64(n) == int64(k) {
				in = append(in, uid)
			}
		}
		if !slices.Equal(got[k], in) {
			t.Fatalf("Split(%d, %d) has %d in the stripe %d, not %d", n, uids, got[k], k, in)
		}
	}
}

// eachRow calls a function with each row of up to some elements of a list.
func eachRow[T any](size int, l []T, f func(row []T)) {
	f(nil)
	for _, e := range l {
		if size > 0 {
			eachRow(size-1, l, func(row []T) { f(append([]T{e}, row...)) })
		}
	}
}

// lists are the identifiers of the views of the exhaustive tests, in order.
func lists() [][]uint32 {
	return [][]uint32{nil, nums(1), nums(most), nums(3, 5), nums(1, 2, 3), nums(3, 5, 9, 12), nums(2, 1<<31, most-1, most), nums(4, 5, 6, 7, 1000)}
}

// ranges returns all ranges of some numbers.
func ranges(l ...uint32) []api.Range {
	var all []api.Range
	for _, lo := range l {
		for _, hi := range l {
			all = append(all, span(lo, hi))
		}
	}
	return all
}

// The chapter's example (P18.1 and P18.2).
func TestChapterExample(t *testing.T) {
	v := view.New(3, 5, 9)
	ranges, _ := seqset.Parse("2:*")
	uids, ok := resolve.UIDs(v, ranges...)
	if !slices.Equal(uids, nums(5, 9)) || !ok {
		t.Errorf("UIDs = %d, %v", uids, ok)
	}
	if l := resolve.Stripes(4, uids...); !slices.Equal(l, []int{1}) {
		t.Errorf("Stripes = %d", l)
	}
	if m := resolve.Split(4, uids...); len(m) != 1 || !slices.Equal(m[1], nums(5, 9)) {
		t.Errorf("Split = %d", m)
	}
}

// P18.1

func TestSeqsAndUIDs(t *testing.T) {
	four := nums(3, 5, 9, 12)
	for i, c := range []struct {
		uids []uint32
		set  []api.Range
		seqs []int
		ok   bool
	}{
		{four, set(span(1, 1)), []int{1}, true},
		{four, set(span(4, 4)), []int{4}, true},
		{four, set(span(2, 3)), []int{2, 3}, true},
		{four, set(span(1, 4)), []int{1, 2, 3, 4}, true},
		// The star stands for the last message, alone and at both ends of a range.
		{four, set(span(0, 0)), []int{4}, true},
		{four, set(span(3, 0)), []int{3, 4}, true},
		{four, set(span(0, 3)), []int{3, 4}, true},
		{four, set(span(4, 0)), []int{4}, true},
		{nums(7), set(span(0, 0)), []int{1}, true},
		{nums(7), set(span(1, 0)), []int{1}, true},
		// The order, and what occurs again, do not matter.
		{four, set(span(3, 2)), []int{2, 3}, true},
		{four, set(span(4, 4), span(1, 1)), []int{1, 4}, true},
		{four, set(span(3, 4), span(2, 3), span(3, 3)), []int{2, 3, 4}, true},
		{four, set(span(4, 2), span(1, 1), span(0, 0)), []int{1, 2, 3, 4}, true},
		// One number that is too great is enough.
		{four, set(span(5, 5)), nil, false},
		{four, set(span(5, 0)), nil, false},
		{four, set(span(0, 5)), nil, false},
		{four, set(span(1, 5)), nil, false},
		{four, set(span(5, 1)), nil, false},
		{four, set(span(1, 1), span(9, 9)), nil, false},
		{four, set(span(9, 9), span(1, 1)), nil, false},
		{four, set(span(1, 4), span(1, most)), nil, false},
		{nums(7), set(span(7, 7)), nil, false},
		{nums(7), set(span(2, 0)), nil, false},
		// No set, and no messages.
		{four, nil, nil, false},
		{nil, nil, nil, false},
		{nil, set(span(0, 0)), nil, false},
		{nil, set(span(1, 1)), nil, false},
		{nums(0), set(span(0, 0)), nil, false},
	} {
		v := view.New(c.uids...)
		if l, ok := resolve.Seqs(v, c.set...); !slices.Equal(l, c.seqs) || ok != c.ok {
			t.Errorf("case %d: Seqs = %d, %v, want %d, %v", i, l, ok, c.seqs, c.ok)
		}
		if l, ok := resolve.UIDs(v, c.set...); !slices.Equal(l, at(c.uids, c.seqs)) || ok != c.ok {
			t.Errorf("case %d: UIDs = %d, %v, want those of %d, %v", i, l, ok, c.seqs, c.ok)
		}
	}
}

// All sets of up to two ranges, or of up to three ranges of fewer numbers, in several views.
func TestSetsInEveryOrder(t *testing.T) {
	for _, l := range lists() {
		v := view.New(l...)
		check := func(row []api.Range) { checkSeqs(t, v, l, row...) }
		eachRow(2, ranges(0, 1, 2, 3, 4, 5, 6, 1<<31, most), check)
		eachRow(3, ranges(0, 1, 3, 4), check)
		if got := v.UIDs(); !slices.Equal(got, l) {
			t.Errorf("afterwards, the view has %d, not %d", got, l)
		}
	}
}

// The numbers are those that the messages have when the function is called.
func TestAfterEvents(t *testing.T) {
	v := view.New(3, 5, 9)
	v.Apply(api.Event{Kind: 2, UID: 3})
	checkSeqs(t, v, nums(5, 9), span(1, 0))
	checkSeqs(t, v, nums(5, 9), span(3, 3))
	v.Apply(api.Event{Kind: 1, UID: 12}, api.Event{Kind: 1, UID: most})
	checkSeqs(t, v, nums(5, 9, 12, most), span(3, 3), span(0, 0))
	checkSet(t, v, nums(5, 9, 12, most), 3, most, 9, 5)
	v.Apply(api.Event{Kind: 2, UID: 5}, api.Event{Kind: 2, UID: 9}, api.Event{Kind: 2, UID: 12}, api.Event{Kind: 2, UID: most})
	checkSeqs(t, v, nil, span(0, 0))
	checkSeqs(t, v, nil, span(1, 1))
	checkSet(t, v, nil, 5, 9, 12, most)
}

// A view may have more messages than a mailbox.
func TestManyMessages(t *testing.T) {
	const size = 70000
	var l []uint32
	for i := range uint32(size) {
		l = append(l, most-(size-1-i)*3)
	}
	v := view.New(l...)
	checkSeqs(t, v, l, span(1, 0))
	checkSeqs(t, v, l, span(65535, 65537), span(0, 69999), span(256, 255))
	checkSeqs(t, v, l, span(1, size+1))
	checkSet(t, v, l, l[65536], l[65535], l[0], l[size-1], l[size-2], l[size-1]-1)
	if got := resolve.Set(v, l...); !slices.Equal(got, set(span(1, size))) {
		t.Errorf("Set of all = %v", got)
	}
}

// A set may have many ranges, which overlap.
func TestManyRanges(t *testing.T) {
	var l []uint32
	var many []api.Range
	for i := range uint32(4096) {
		l = append(l, 2*i+1)
		many = append(many, span(4096-i%7, i%2*4000+1))
	}
	v := view.New(l...)
	checkSeqs(t, v, l, many...)
	for len(many) < 1<<18 {
		many = append(many, span(1, 0))
	}
	seqs, ok := resolve.Seqs(v, many...)
	uids, also := resolve.UIDs(v, many...)
	if !slices.Equal(seqs, upTo(4096)) || !slices.Equal(uids, l) || !ok || !also {
		t.Errorf("%d sequence numbers and %d identifiers, %v, %v", len(seqs), len(uids), ok, also)
	}
	many[1<<17].Hi = 4097
	seqs, ok = resolve.Seqs(v, many...)
	uids, also = resolve.UIDs(v, many...)
	if len(seqs)+len(uids) != 0 || ok || also {
		t.Errorf("of a set that is not valid: %d sequence numbers and %d identifiers, %v, %v", len(seqs), len(uids), ok, also)
	}
}

// P18.2

func TestStripes(t *testing.T) {
	for i, c := range []struct {
		n    int
		uids []uint32
		want []int
	}{
		{4, nil, nil},
		{4, nums(7), []int{3}},
		{4, nums(9, 5, 1, 9), []int{1}},
		{4, nums(7, 6, 5, 4, 3), []int{0, 1, 2, 3}},
		{4, nums(3, 4, 7, 8), []int{0, 3}},
		{1, nums(7, 1, most), []int{0}},
		{16, nums(most, 16, 17), []int{0, 1, 15}},
		// The identifier 0 has a stripe, too.
		{3, nums(0), []int{0}},
		{3, nums(2, 0), []int{0, 2}},
		// There may be more stripes than a mailbox has, and more than there are identifiers.
		{17, nums(16, 33, 17), []int{0, 16}},
		{most, nums(most, most-1, 1), []int{0, 1, most - 1}},
		{1 << 32, nums(most, 0), []int{0, most}},
		{1<<32 + 1, nums(most, 2, 1), []int{1, 2, most}},
		{math.MaxInt, nums(most, 1<<31), []int{1 << 31, most}},
		{0, nums(1, 2), nil},
		{-1, nums(1, 2), nil},
		{-4, nums(1, 2), nil},
		{math.MinInt, nums(0, most), nil},
		{0, nil, nil},
	} {
		if got := resolve.Stripes(c.n, c.uids...); !slices.Equal(got, c.want) {
			t.Errorf("case %d: Stripes = %d, want %d", i, got, c.want)
		}
		if got := resolve.Split(c.n, c.uids...); !slices.Equal(slices.Sorted(maps.Keys(got)), c.want) {
			t.Errorf("case %d: Split = %d, want the stripes %d", i, got, c.want)
		}
	}
}

// Split keeps the given order, and what occurs again.
func TestSplit(t *testing.T) {
	same := func(a, b map[int][]uint32) bool { return maps.EqualFunc(a, b, slices.Equal[[]uint32]) }
	for i, c := range []struct {
		n    int
		uids []uint32
		want map[int][]uint32
	}{
		{4, nil, nil},
		{4, nums(9, 3, 5, 9, 12), map[int][]uint32{0: nums(12), 1: nums(9, 5, 9), 3: nums(3)}},
		{1, nums(9, 3, 3, 0, 5), map[int][]uint32{0: nums(9, 3, 3, 0, 5)}},
		{2, nums(4, 3, 2, 1, 0), map[int][]uint32{0: nums(4, 2, 0), 1: nums(3, 1)}},
		{16, nums(most, 15, 31, 30), map[int][]uint32{14: nums(30), 15: nums(most, 15, 31)}},
		{1 << 32, nums(most, 0, most), map[int][]uint32{0: nums(0), most: nums(most, most)}},
		{0, nums(4, 3), nil},
		{-2, nums(4, 3), nil},
	} {
		if got := resolve.Split(c.n, c.uids...); !same(got, c.want) {
			t.Errorf("case %d: Split = %d, want %d", i, got, c.want)
		}
	}
}

// All rows of up to four identifiers, in any number of stripes.
func TestStripesInEveryOrder(t *testing.T) {
	for _, n := range []int{math.MinInt, -1 << 32, -3, -1, 0, 1, 2, 3, 4, 5, 15, 16, 17, 255, 1 << 16, 1 << 31, most - 1, most, 1 << 32, 1<<32 + 1, 1<<32 + 2, math.MaxInt} {
		eachRow(4, nums(0, 1, 2, 3, 7, 1<<31, most-1, most), func(row []uint32) { checkSplit(t, n, row...) })
	}
}

func TestStripesOfMany(t *testing.T) {
	var l []uint32
	for i := range uint32(5000) {
		l = append(l, i*2654435761, 5000-i, i%60*16)
	}
	for n := -1; n < 20; n++ {
		checkSplit(t, n, l...)
	}
	checkSplit(t, 1000, l...)
}

// P18.3

func TestSet(t *testing.T) {
	v := view.New(3, 5, 9, 12, most)
	for i, c := range []struct {
		uids []uint32
		want []api.Range
	}{
		{nil, nil},
		{nums(3), set(span(1, 1))},
		{nums(most), set(span(5, 5))},
		{nums(5, 9), set(span(2, 3))},
		{nums(9, 5, 5, 9), set(span(2, 3))},
		{nums(12, 3), set(span(1, 1), span(4, 4))},
		{nums(most, 5, 3, 12), set(span(1, 2), span(4, 5))},
		{nums(3, 5, 9, 12, most), set(span(1, 5))},
		// Others are left out, those that are sequence numbers among them.
		{nums(0), nil},
		{nums(1, 2, 4, 0, most-1), nil},
		{nums(1, 2, 3), set(span(1, 1))},
		{nums(12, 4, 3, 0, 10), set(span(1, 1), span(4, 4))},
		{nums(3, 4, 5, 6, 7, 8, 9), set(span(1, 3))},
	} {
		if got := resolve.Set(v, c.uids...); !slices.Equal(got, c.want) {
			t.Errorf("case %d: Set = %v, want %v", i, got, c.want)
		}
	}
}

// All rows of up to four identifiers, in several views (P18.3 and P18.4).
func TestIdentifiersInEveryOrder(t *testing.T) {
	for _, l := range lists() {
		v := view.New(l...)
		eachRow(4, nums(0, 1, 2, 3, 4, 5, 9, 12, 1<<31, most-1, most), func(row []uint32) { checkSet(t, v, l, row...) })
		if got := v.UIDs(); !slices.Equal(got, l) {
			t.Errorf("afterwards, the view has %d, not %d", got, l)
		}
	}
}

// P18.4

func TestUIDsOfSet(t *testing.T) {
	v := view.New(3, 5, 9)
	for i, c := range []struct{ uids, want []uint32 }{
		{nil, nil},
		{nums(4, 0, 10), nil},
		{nums(9, 3), nums(3, 9)},
		{nums(9, 4, 9, 5, 3, 5), nums(3, 5, 9)},
		{nums(1, 2, 3), nums(3)},
	} {
		if got, ok := resolve.UIDs(v, resolve.Set(v, c.uids...)...); !slices.Equal(got, c.want) || ok != (c.want != nil) {
			t.Errorf("case %d: UIDs of Set = %d, %v, want %d", i, got, ok, c.want)
		}
	}
}

func TestUIDsOfSetOfMany(t *testing.T) {
	var l []uint32
	for i := range uint32(4000) {
		if i*i%7 != 2 {
			l = append(l, i+1)
		}
	}
	v := view.New(l...)
	for step := uint32(1); step < 40; step++ {
		var uids []uint32
		for uid := uint32(4200); uid > step; uid -= step {
			uids = append(uids, uid)
		}
		checkSet(t, v, l, uids...)
	}
}

// P1, P2 and the rules

// A nil view has no messages.
func TestNil(t *testing.T) {
	for range 2 {
		checkSeqs(t, nil, nil)
		for _, r := range ranges(0, 1, 2, most) {
			checkSeqs(t, nil, nil, r)
			checkSeqs(t, nil, nil, span(0, 0), r)
		}
		checkSet(t, nil, nil)
		checkSet(t, nil, nil, 0, 1, 2, most)
	}
}

// Arguments are not modified, and nothing beyond their lengths is read.
func TestBeyondTheLengthOfAnArgument(t *testing.T) {
	l := nums(3, 5, 9, 12)
	v := view.New(l...)
	fullSet := set(span(0, 3), span(2, 1), span(4, 4), span(9, 9))
	for n := range len(fullSet) + 1 {
		room := slices.Clone(fullSet)
		checkSeqs(t, v, l, room[:n]...)
		if !slices.Equal(room, fullSet) {
			t.Fatalf("the set is then %v", room)
		}
	}
	full := nums(12, 3, 12, 4, 0, 9, 5)
	for n := range len(full) + 1 {
		room := slices.Clone(full)
		checkSet(t, v, l, room[:n]...)
		checkSplit(t, 4, room[:n]...)
		if !slices.Equal(room, full) {
			t.Fatalf("the identifiers are then %d", room)
		}
	}
}

// Results share no memory with arguments, with the view, or with each other.
func TestResultsShareNoMemory(t *testing.T) {
	l := nums(3, 5, 9, 12)
	v := view.New(l...)
	all := set(span(1, 0))
	uids := slices.Clone(l)
	for range 2 {
		seqs, _ := resolve.Seqs(v, all...)
		got, _ := resolve.UIDs(v, all...)
		stripes := resolve.Stripes(4, uids...)
		ranges := resolve.Set(v, uids...)
		split := resolve.Split(4, uids...)
		one := resolve.Split(1, uids...)
		// What is appended to one slice of a result must not show in another one.
		for _, k := range stripes {
			_ = append(split[k], 77, 77, 77, 77)
		}
		if !slices.Equal(seqs, upTo(4)) || !slices.Equal(got, l) || !slices.Equal(stripes, []int{0, 1, 3}) || !slices.Equal(ranges, set(span(1, 4))) {
			t.Fatal(seqs, got, stripes, ranges)
		}
		if !slices.Equal(split[0], nums(12)) || !slices.Equal(split[1], nums(5, 9)) || !slices.Equal(split[3], nums(3)) || !slices.Equal(one[0], l) {
			t.Fatal(split, one)
		}
		clear(seqs)
		clear(got)
		clear(stripes)
		clear(ranges)
		clear(split[1])
		clear(one[0])
		clear(split)
		if !slices.Equal(v.UIDs(), l) || !slices.Equal(uids, l) || !slices.Equal(all, set(span(1, 0))) {
			t.Fatal(v.UIDs(), uids, all)
		}
	}
}

// What a call returns does not change when its arguments or the view do.
func TestResultsAreKept(t *testing.T) {
	v := view.New(3, 5, 9)
	all := set(span(1, 0))
	uids := nums(9, 3, 5)
	seqs, _ := resolve.Seqs(v, all...)
	got, _ := resolve.UIDs(v, all...)
	ranges := resolve.Set(v, uids...)
	split := resolve.Split(1, uids...)
	clear(uids)
	clear(all)
	v.Apply(api.Event{Kind: 2, UID: 3}, api.Event{Kind: 1, UID: 12})
	if !slices.Equal(seqs, upTo(3)) || !slices.Equal(got, nums(3, 5, 9)) || !slices.Equal(ranges, set(span(1, 3))) || !slices.Equal(split[0], nums(9, 3, 5)) {
		t.Error(seqs, got, ranges, split)
	}
}

// Views are independent of each other.
func TestConcurrentCalls(t *testing.T) {
	var all sync.WaitGroup
	uids := nums(9, 3, 5, 12)
	ranges := set(span(0, 2))
	for i := range uint32(8) {
		all.Go(func() {
			l := []uint32{3, 5, 9, 100 + i}
			v := view.New(l...)
			for range 100 {
				got, ok := resolve.UIDs(v, ranges...)
				if !ok || !slices.Equal(got, l[1:]) || len(resolve.Set(v, uids...)) != 1 || len(resolve.Stripes(4, uids...)) != 3 || len(resolve.Split(4, uids...)) != 3 {
					t.Error("a concurrent call has another result")
				}
			}
		})
	}
	all.Wait()
}
