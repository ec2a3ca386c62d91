package index_test

import (
	"math"
	"slices"
	"sync"
	"testing"

	"cubbyhole/index"
)

// most is the greatest identifier.
const most = 4294967295

// model is an index as the chapter's sentences give it: the set of its identifiers. It finds nothing by order, but counts.
type model map[uint32]bool

// newModel returns what New is to return.
func newModel(l ...uint32) model {
	m := model{}
	for _, uid := range l {
		if uid != 0 {
			m[uid] = true
		}
	}
	return m
}

// append returns what Append is to return.
func (m model) append(uid uint32) bool {
	for u := range m {
		if u >= uid {
			return false
		}
	}
	if uid != 0 {
		m[uid] = true
	}
	return uid != 0
}

// remove returns what Remove is to return.
func (m model) remove(uid uint32) int {
	pos := m.pos(uid)
	delete(m, uid)
	return pos
}

// pos returns what Pos is to return.
func (m model) pos(uid uint32) int {
	if !m[uid] {
		return 0
	}
	front := 0
	for u := range m {
		if u < uid {
			front++
		}
	}
	return front + 1
}

// at returns what At is to return.
func (m model) at(pos int) (uint32, bool) {
	for u := range m {
		if m.pos(u) == pos {
			return u, true
		}
	}
	return 0, false
}

// between returns what Between is to return, and what All is to return between 0 and the greatest identifier.
func (m model) between(lo, hi uint32) []uint32 {
	var l []uint32
	for u := range m {
		if u >= lo && u <= hi {
			l = append(l, u)
		}
	}
	slices.Sort(l)
	return l
}

// values returns the numbers of an index, those beside them, and those at the ends of the range.
func (m model) values() []uint32 {
	l := []uint32{0, 1, 2, 1<<31 - 1, 1 << 31, most - 1, most}
	for u := range m {
		l = append(l, u-1, u, u+1)
	}
	slices.Sort(l)
	return slices.Compact(l)
}

// check compares everything that an index says with what it is to say.
func check(t *testing.T, x *index.Index, m model) {
	t.Helper()
	all := m.between(0, most)
	if x.Len() != len(m) || !slices.Equal(x.All(), all) {
		t.Fatalf("Len = %d, All = %d, want %d", x.Len(), x.All(), all)
	}
	for pos := -2; pos <= len(m)+2; pos++ {
		uid, ok := x.At(pos)
		if wantUID, wantOK := m.at(pos); uid != wantUID || ok != wantOK {
			t.Fatalf("in %d, At(%d) = %d, %v, want %d, %v", all, pos, uid, ok, wantUID, wantOK)
		}
	}
	values := m.values()
	for _, lo := range values {
		if pos := x.Pos(lo); pos != m.pos(lo) {
			t.Fatalf("in %d, Pos(%d) = %d, want %d", all, lo, pos, m.pos(lo))
		}
		for _, hi := range values {
			if l := x.Between(lo, hi); !slices.Equal(l, m.between(lo, hi)) {
				t.Fatalf("in %d, Between(%d, %d) = %d, want %d", all, lo, hi, l, m.between(lo, hi))
			}
		}
	}
}

// checkAppend calls Append, and compares what it returns with what it is to return.
func checkAppend(t *testing.T, x *index.Index, m model, uid uint32) {
	t.Helper()
	if ok, want := x.Append(uid), m.append(uid); ok != want {
		t.Fatalf("Append(%d) = %v, want %v", uid, ok, want)
	}
}

// checkRemove calls Remove, and compares what it returns with what it is to return.
func checkRemove(t *testing.T, x *index.Index, m model, uid uint32) {
	t.Helper()
	if pos, want := x.Remove(uid), m.remove(uid); pos != want {
		t.Fatalf("Remove(%d) = %d, want %d", uid, pos, want)
	}
}

// few are numbers of which the exhaustive tests try all rows: both ends of the range, and some next to each other.
var few = []uint32{0, 1, 2, 3, 1 << 31, most - 1, most}

// eachRow calls a function with each row of up to some numbers, each of them less than n.
func eachRow(size, n int, f func(row []int)) {
	f(nil)
	for i := range n {
		if size > 0 {
			eachRow(size-1, n, func(row []int) { f(append([]int{i}, row...)) })
		}
	}
}

// Each row of up to four calls that change an index, or may, has the results that the chapter's sentences give, from an index with any of the numbers on (P12.1 to P12.4).
func TestCallsInEveryOrder(t *testing.T) {
	for _, start := range [][]uint32{nil, {2}, {1, 2, 3}, {2, 1 << 31}, {1, 3, 1 << 31, most - 1}, few} {
		eachRow(4, 2*len(few), func(row []int) {
			x, m := index.New(start...), newModel(start...)
			for _, i := range row {
				if i < len(few) {
					checkAppend(t, x, m, few[i])
				} else {
					checkRemove(t, x, m, few[i-len(few)])
				}
			}
			if len(row) < 4 {
				check(t, x, m)
			} else if !slices.Equal(x.All(), m.between(0, most)) {
				t.Fatalf("from %d on, after %d: %d, want %d", start, row, x.All(), m.between(0, most))
			}
		})
	}
}

// P12.1

// The identifiers are given in every order, with repetitions and zeros.
func TestNewInEveryOrder(t *testing.T) {
	eachRow(4, len(few), func(row []int) {
		var l []uint32
		for _, i := range row {
			l = append(l, few[i])
		}
		x := index.New(l...)
		if x == nil {
			t.Fatalf("New(%d) = nil", l)
		}
		if m := newModel(l...); len(l) < 4 {
			check(t, x, m)
		} else if !slices.Equal(x.All(), m.between(0, most)) || x.Len() != len(m) {
			t.Fatalf("All of New(%d) = %d, want %d", l, x.All(), m.between(0, most))
		}
	})
}

func TestNew(t *testing.T) {
	for _, c := range []struct{ l, want []uint32 }{
		{nil, nil},
		{[]uint32{0}, nil},
		{[]uint32{0, 0, 0}, nil},
		{[]uint32{7}, []uint32{7}},
		{[]uint32{7, 7, 7, 7}, []uint32{7}},
		{[]uint32{3, 5, 9}, []uint32{3, 5, 9}},
		{[]uint32{9, 5, 3}, []uint32{3, 5, 9}},
		{[]uint32{9, 0, 5, 9, 3, 0, 5}, []uint32{3, 5, 9}},
		// The order is that of numbers without a sign.
		{[]uint32{4294967295, 2147483648, 2147483647, 1}, []uint32{1, 2147483647, 2147483648, 4294967295}},
	} {
		if x := index.New(c.l...); x == nil || !slices.Equal(x.All(), c.want) || x.Len() != len(c.want) {
			t.Errorf("All of New(%d) = %d, want %d", c.l, x.All(), c.want)
		}
	}
}

func TestAppend(t *testing.T) {
	x := index.New()
	for _, c := range []struct {
		uid uint32
		ok  bool
	}{
		{0, false}, {3, true}, {3, false}, {2, false}, {0, false}, {4, true}, {9, true}, {9, false}, {5, false}, {3, false},
		// Whether an identifier is greater does not depend on its highest bit.
		{2147483647, true}, {2147483648, true}, {2147483647, false}, {10, false}, {4294967294, true}, {4294967295, true}, {4294967295, false}, {4294967294, false}, {0, false},
	} {
		before := x.All()
		if ok := x.Append(c.uid); ok != c.ok {
			t.Errorf("to %d, Append(%d) = %v", before, c.uid, ok)
		}
		if c.ok {
			before = append(before, c.uid)
		}
		if !slices.Equal(x.All(), before) {
			t.Errorf("after Append(%d): %d, want %d", c.uid, x.All(), before)
		}
	}
}

// An identifier that was removed can be appended again only where it is greater than the others.
func TestAppendAfterRemove(t *testing.T) {
	x := index.New(3, 5, 9)
	for _, c := range []struct {
		uid   uint32
		ok    bool
		after []uint32
	}{
		{9, true, []uint32{3, 5, 9}}, {5, false, []uint32{3, 9}}, {9, true, []uint32{3, 9}}, {3, false, []uint32{9}}, {9, true, []uint32{9}},
	} {
		x.Remove(c.uid)
		if ok := x.Append(c.uid); ok != c.ok || !slices.Equal(x.All(), c.after) {
			t.Errorf("Append(%d) = %v, then %d, want %v and %d", c.uid, ok, x.All(), c.ok, c.after)
		}
	}
}

// P12.2

func TestRemove(t *testing.T) {
	for _, c := range []struct {
		uid   uint32
		pos   int
		after []uint32
	}{
		{3, 1, []uint32{5, 9, most}}, {5, 2, []uint32{3, 9, most}}, {9, 3, []uint32{3, 5, most}}, {most, 4, []uint32{3, 5, 9}},
		{0, 0, []uint32{3, 5, 9, most}}, {1, 0, []uint32{3, 5, 9, most}}, {4, 0, []uint32{3, 5, 9, most}}, {10, 0, []uint32{3, 5, 9, most}}, {most - 1, 0, []uint32{3, 5, 9, most}},
	} {
		x := index.New(3, 5, 9, most)
		if pos := x.Remove(c.uid); pos != c.pos || !slices.Equal(x.All(), c.after) || x.Len() != len(c.after) {
			t.Errorf("Remove(%d) = %d, then %d, want %d and %d", c.uid, pos, x.All(), c.pos, c.after)
		}
		if pos := x.Remove(c.uid); pos != 0 || !slices.Equal(x.All(), c.after) {
			t.Errorf("the second Remove(%d) = %d, then %d", c.uid, pos, x.All())
		}
	}
}

// An index may lose all its identifiers, from either end, and get others, of which any may be less than those that it had.
func TestRemoveAll(t *testing.T) {
	x := index.New(3, 5, 9)
	for _, c := range []struct {
		uid uint32
		pos int
	}{{3, 1}, {5, 1}, {9, 1}, {9, 0}} {
		if pos := x.Remove(c.uid); pos != c.pos {
			t.Errorf("Remove(%d) = %d, want %d", c.uid, pos, c.pos)
		}
	}
	check(t, x, newModel())
	if x.Append(0) || !x.Append(1) || !x.Append(2) {
		t.Errorf("then Append: %d", x.All())
	}
	if x.Remove(2) != 2 || x.Remove(1) != 1 || x.Remove(1) != 0 {
		t.Errorf("then Remove: %d", x.All())
	}
	check(t, x, newModel())
}

func TestChapterExample(t *testing.T) {
	x := index.New(3, 5, 9)
	if pos := x.Pos(5); pos != 2 {
		t.Errorf("Pos(5) = %d", pos)
	}
	if pos := x.Remove(5); pos != 2 {
		t.Errorf("Remove(5) = %d", pos)
	}
	if pos := x.Pos(9); pos != 2 {
		t.Errorf("then Pos(9) = %d", pos)
	}
}

// P12.3

func TestAt(t *testing.T) {
	x := index.New(most, 5, 1)
	for _, c := range []struct {
		pos int
		uid uint32
		ok  bool
	}{
		{1, 1, true}, {2, 5, true}, {3, most, true},
		{0, 0, false}, {-1, 0, false}, {-3, 0, false}, {4, 0, false}, {5, 0, false},
		{math.MinInt, 0, false}, {math.MinInt + 1, 0, false}, {math.MaxInt, 0, false}, {1 << 32, 0, false}, {1<<32 + 1, 0, false}, {-1 << 32, 0, false},
	} {
		if uid, ok := x.At(c.pos); uid != c.uid || ok != c.ok {
			t.Errorf("At(%d) = %d, %v, want %d, %v", c.pos, uid, ok, c.uid, c.ok)
		}
	}
	// Where an identifier was removed from the end, its place has none.
	x.Remove(most)
	if uid, ok := x.At(3); uid != 0 || ok {
		t.Errorf("At(3) = %d, %v after Remove", uid, ok)
	}
}

func TestEmpty(t *testing.T) {
	for _, x := range []*index.Index{index.New(), index.New(0)} {
		check(t, x, newModel())
		if uid, ok := x.At(1); uid != 0 || ok || x.Len() != 0 || len(x.All()) != 0 || x.Remove(1) != 0 {
			t.Errorf("%d, %v, %d", uid, ok, x.All())
		}
	}
}

// P12.4

func TestBetween(t *testing.T) {
	x := index.New(3, 5, 9, 2147483648, most)
	for _, c := range []struct {
		lo, hi uint32
		want   []uint32
	}{
		{0, most, []uint32{3, 5, 9, 2147483648, most}},
		{0, 0, nil}, {0, 2, nil}, {0, 3, []uint32{3}}, {0, 4, []uint32{3}},
		{3, 9, []uint32{3, 5, 9}}, {4, 8, []uint32{5}}, {5, 5, []uint32{5}}, {6, 8, nil}, {9, 10, []uint32{9}},
		{10, 2147483648, []uint32{2147483648}}, {10, 2147483647, nil},
		{2147483648, most - 1, []uint32{2147483648}}, {2147483649, most, []uint32{most}}, {most - 1, most - 1, nil}, {most, most, []uint32{most}},
		{9, 3, nil}, {5, 4, nil}, {5, 3, nil}, {4, 3, nil}, {most, 0, nil}, {most, most - 1, nil}, {1, 0, nil},
	} {
		if l := x.Between(c.lo, c.hi); !slices.Equal(l, c.want) {
			t.Errorf("Between(%d, %d) = %d, want %d", c.lo, c.hi, l, c.want)
		}
	}
}

// P12.5

// As many as a mailbox has of them are removed one after another, from all parts of the index.
func TestPlaces(t *testing.T) {
	const size = 4096
	var want []uint32
	x := index.New()
	for i := range uint32(size) {
		uid := i*1000003 + i*i%7 + 1
		if !x.Append(uid) {
			t.Fatalf("Append(%d) = false", uid)
		}
		want = append(want, uid)
	}
	for len(want) > 0 {
		for i := 0; i < len(want); i += 1 + len(want)/50 {
			uid, ok := x.At(i + 1)
			if uid != want[i] || !ok || x.Pos(uid) != i+1 {
				t.Fatalf("%d left: At(%d) = %d, %v, and its Pos = %d", len(want), i+1, uid, ok, x.Pos(uid))
			}
		}
		i := len(want) * 31 % 97 * len(want) / 97
		uid := want[i]
		want = slices.Delete(want, i, i+1)
		if pos := x.Remove(uid); pos != i+1 || x.Pos(uid) != 0 || x.Len() != len(want) {
			t.Fatalf("Remove(%d) = %d, want %d, and %d left of %d", uid, pos, i+1, x.Len(), len(want))
		}
	}
}

// Removing an identifier lowers the places of those after it by 1, and leaves those in front of it.
func TestRemoveLowersPlaces(t *testing.T) {
	l := []uint32{1, 2, 3, 10, 20, 1 << 31, most - 1, most}
	for i, gone := range l {
		x := index.New(l...)
		x.Remove(gone)
		for j, uid := range l {
			want := j + 1
			if j == i {
				want = 0
			} else if j > i {
				want = j
			}
			if pos := x.Pos(uid); pos != want {
				t.Errorf("without %d, Pos(%d) = %d, want %d", gone, uid, pos, want)
			}
			if uidAt, ok := x.At(want); ok != (want > 0) || ok && uidAt != uid {
				t.Errorf("without %d, At(%d) = %d, %v", gone, want, uidAt, ok)
			}
		}
	}
}

// P1, P2 and the rules

func TestNil(t *testing.T) {
	var x *index.Index
	for _, n := range few {
		if x.Append(n) || x.Remove(n) != 0 || x.Pos(n) != 0 || len(x.Between(n, most)) != 0 || len(x.Between(0, n)) != 0 {
			t.Errorf("%d: %d, %d, %d", n, x.Remove(n), x.Pos(n), x.Between(0, n))
		}
	}
	for _, pos := range []int{math.MinInt, -1, 0, 1, 2, math.MaxInt} {
		if uid, ok := x.At(pos); uid != 0 || ok {
			t.Errorf("At(%d) = %d, %v", pos, uid, ok)
		}
	}
	if x.Len() != 0 || len(x.All()) != 0 {
		t.Errorf("%d, %d", x.Len(), x.All())
	}
}

// New neither modifies nor keeps its arguments, whichever order and room they have.
func TestArgumentsAreNotKept(t *testing.T) {
	for _, l := range [][]uint32{{3, 5, 9}, {9, 3, 5}, {5, 0, 5, 3, 9, 0}} {
		room := slices.Grow(slices.Clone(l), 10)
		copy(room[len(l):cap(room)], []uint32{7, 7, 7})
		x := index.New(room...)
		x.Append(10)
		x.Remove(3)
		if !slices.Equal(room, l) || !slices.Equal(room[len(l):len(l)+3], []uint32{7, 7, 7}) {
			t.Errorf("New(%d) leaves %d", l, room[:len(l)+3])
		}
		for i := range room {
			room[i] = 1
		}
		if !slices.Equal(x.All(), []uint32{5, 9, 10}) {
			t.Errorf("New(%d) keeps its argument: %d", l, x.All())
		}
	}
}

// A result shares memory neither with the index nor with another result.
func TestResultsAreNotShared(t *testing.T) {
	x := index.New(3, 5, 9)
	all := [][]uint32{x.All(), x.All(), x.Between(0, most), x.Between(3, 9), x.Between(3, 9)}
	x.Append(11)
	x.Remove(5)
	for i := range all {
		if !slices.Equal(all[i], []uint32{3, 5, 9}) {
			t.Fatalf("result %d is then %d", i, all[i])
		}
		for j := range all[i] {
			all[i][j] = 1
		}
		// Appending to a result does not write into what the index has after it.
		_ = append(all[i], 1, 1)
	}
	if !slices.Equal(x.All(), []uint32{3, 9, 11}) {
		t.Errorf("the index is then %d", x.All())
	}
	y := index.New(3, 5, 9)
	front := y.Between(3, 5)
	_ = append(front, 1)
	if !slices.Equal(y.All(), []uint32{3, 5, 9}) {
		t.Errorf("the other index is then %d", y.All())
	}
}

// Indexes that were made separately have nothing in common, even if they were made with the same slice (P2).
func TestIndexesAreIndependent(t *testing.T) {
	starts := [][]uint32{nil, {3, 5, 9}, {9, 5, 3}, few}
	var xs []*index.Index
	var ms []model
	for range 2 {
		for _, l := range starts {
			xs, ms = append(xs, index.New(l...)), append(ms, newModel(l...))
		}
	}
	for i := range 200 {
		k := i * 7 % len(xs)
		if uid := uint32(i); i%3 > 0 {
			checkAppend(t, xs[k], ms[k], uid)
		} else {
			checkRemove(t, xs[k], ms[k], uid/4)
		}
		if i%20 == 0 {
			checkRemove(t, xs[k], ms[k], most)
			checkRemove(t, xs[k], ms[k], most-1)
			checkRemove(t, xs[k], ms[k], 1<<31)
		}
		for j := range xs {
			if !slices.Equal(xs[j].All(), ms[j].between(0, most)) {
				t.Fatalf("after call %d of index %d, index %d is %d", i, k, j, xs[j].All())
			}
		}
	}
	for j := range xs {
		check(t, xs[j], ms[j])
	}
}

// The functions may be called concurrently, each index by one goroutine, even if they were made with the same slice.
func TestConcurrentIndexes(t *testing.T) {
	l := []uint32{9, 5, 3}
	var wg sync.WaitGroup
	for range 8 {
		wg.Go(func() {
			for range 200 {
				x := index.New(l...)
				if !x.Append(10) || x.Remove(5) != 2 || x.Pos(9) != 2 || !slices.Equal(x.All(), []uint32{3, 9, 10}) || !slices.Equal(x.Between(4, 9), []uint32{9}) {
					t.Errorf("%d", x.All())
					return
				}
			}
		})
	}
	wg.Wait()
}
