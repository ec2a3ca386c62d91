package stripe_test

import (
	"bytes"
	"math"
	"slices"
	"strings"
	"sync"
	"testing"

	"cubbyhole/api"
	"cubbyhole/stripe"
)

const (
	most    = 4294967295 // the greatest identifier
	longest = 65536      // the greatest number of bytes of a body
)

// model is a table as the chapter's sentences give it: a number of stripes, and the messages in the order in which they were added.
type model struct {
	stripes int
	l       []api.Message
}

// find returns where the model has a message, or -1.
func (m *model) find(uid uint32) int {
	return slices.IndexFunc(m.l, func(x api.Message) bool { return x.UID == uid })
}

// put returns what Put is to return.
func (m *model) put(x api.Message) api.Code {
	if x.UID == 0 || x.Flags >= 32 || len(x.Body) > longest {
		return 2
	}
	if m.find(x.UID) >= 0 {
		return 8
	}
	x.Body = []byte(string(x.Body))
	m.l = append(m.l, x)
	return 0
}

// get returns what Get is to return.
func (m *model) get(uid uint32) (api.Message, bool) {
	if i := m.find(uid); i >= 0 {
		return m.l[i], true
	}
	return api.Message{}, false
}

// flags returns what Flags is to return.
func (m *model) flags(uid uint32, mode int, f api.Flags) (api.Flags, api.Code) {
	i := m.find(uid)
	if i < 0 {
		return 0, 7
	}
	after, ok := changed(m.l[i].Flags, mode, f)
	if !ok {
		return 0, 2
	}
	m.l[i].Flags = after
	return after, 0
}

// changed returns flags after a change, bit by bit, and whether there is such a change.
func changed(old api.Flags, mode int, f api.Flags) (api.Flags, bool) {
	if mode < 0 || mode > 2 || f >= 32 {
		return 0, false
	}
	var after api.Flags
	for _, bit := range []api.Flags{1, 2, 4, 8, 16} {
		had, named := old&bit != 0, f&bit != 0
		if has := []bool{named, had || named, had && !named}[mode]; has {
			after += bit
		}
	}
	return after, true
}

// remove returns what Remove is to return.
func (m *model) remove(uid uint32) (api.Message, bool) {
	x, ok := m.get(uid)
	m.l = slices.DeleteFunc(m.l, func(x api.Message) bool { return x.UID == uid })
	return x, ok
}

// with returns what With is to return.
func (m *model) with(f api.Flags) []uint32 {
	var l []uint32
	for _, x := range m.l {
		if f&^x.Flags == 0 {
			l = append(l, x.UID)
		}
	}
	slices.Sort(l)
	return l
}

// of returns what Of is to return.
func (m *model) of(uid uint32) int {
	for n := range m.stripes {
		if (int64(uid)-int64(n))%int64(m.stripes) == 0 {
			return n
		}
	}
	return -1
}

// sizes returns what Sizes is to return.
func (m *model) sizes() []int {
	l := make([]int, m.stripes)
	for _, x := range m.l {
		l[m.of(x.UID)]++
	}
	return l
}

// same reports whether two messages are equal. An empty body may be nil.
func same(a, b api.Message) bool {
	return a.UID == b.UID && a.Flags == b.Flags && bytes.Equal(a.Body, b.Body)
}

// few are identifiers of which the exhaustive tests try all rows: both ends of the range, and some that are next to each other or share a stripe.
var few = []uint32{0, 1, 2, 5, 1 << 31, most - 1, most}

// check compares everything that a table says with what it is to say.
func check(t *testing.T, x *stripe.Table, m *model) {
	t.Helper()
	if n, l := x.Stripes(), x.Sizes(); n != m.stripes || !slices.Equal(l, m.sizes()) {
		t.Fatalf("Stripes = %d, Sizes = %d, want %d and %d", n, l, m.stripes, m.sizes())
	}
	uids := slices.Clone(few)
	for _, c := range m.l {
		uids = append(uids, c.UID-1, c.UID, c.UID+1)
	}
	for _, uid := range uids {
		c, ok := x.Get(uid)
		if want, wantOK := m.get(uid); !same(c, want) || ok != wantOK {
			t.Fatalf("Get(%d) = %v, %v, want %v, %v", uid, c, ok, want, wantOK)
		}
	}
	for _, f := range []api.Flags{0, 1, 2, 4, 8, 16, 3, 24, 12, 31, 32, 33, 128, 255} {
		if l := x.With(f); !slices.Equal(l, m.with(f)) {
			t.Fatalf("With(%d) = %d, want %d", f, l, m.with(f))
		}
	}
}

// checkPut calls Put, and compares what it returns with what it is to return.
func checkPut(t *testing.T, x *stripe.Table, m *model, c api.Message) {
	t.Helper()
	if e, want := x.Put(c), m.put(c); e != want {
		t.Fatalf("Put of %d with the flags %d and %d bytes = %d, want %d", c.UID, c.Flags, len(c.Body), e, want)
	}
}

// checkFlags calls Flags, and compares what it returns with what it is to return.
func checkFlags(t *testing.T, x *stripe.Table, m *model, uid uint32, mode int, f api.Flags) {
	t.Helper()
	after, e := x.Flags(uid, mode, f)
	if want, wantE := m.flags(uid, mode, f); after != want || e != wantE {
		t.Fatalf("Flags(%d, %d, %d) = %d, %d, want %d, %d", uid, mode, f, after, e, want, wantE)
	}
}

// checkRemove calls Remove, and compares what it returns with what it is to return.
func checkRemove(t *testing.T, x *stripe.Table, m *model, uid uint32) {
	t.Helper()
	c, ok := x.Remove(uid)
	if want, wantOK := m.remove(uid); !same(c, want) || ok != wantOK {
		t.Fatalf("Remove(%d) = %v, %v, want %v, %v", uid, c, ok, want, wantOK)
	}
}

// made returns a table of some stripes, and its model.
func made(t *testing.T, stripes int, l ...api.Message) (*stripe.Table, *model) {
	t.Helper()
	x, m := stripe.New(stripes), &model{stripes: stripes}
	for _, c := range l {
		checkPut(t, x, m, c)
	}
	return x, m
}

// some are messages of every stripe of small tables, in no order, with flags that overlap.
func some() []api.Message {
	return []api.Message{
		{UID: 9, Flags: 8, Body: []byte("nine")},
		{UID: 1, Flags: 0, Body: nil},
		{UID: most, Flags: 31, Body: []byte{0, 13, 10, 255}},
		{UID: 4, Flags: 12, Body: []byte{}},
		{UID: 1 << 31, Flags: 4, Body: []byte("half")},
		{UID: 3, Flags: 16, Body: []byte("three")},
		{UID: 16, Flags: 5, Body: []byte("sixteen")},
	}
}

// calls are calls that change a table, or may, for each of the few identifiers.
func calls() []func(t *testing.T, x *stripe.Table, m *model) {
	var l []func(t *testing.T, x *stripe.Table, m *model)
	for i, uid := range few {
		l = append(l,
			func(t *testing.T, x *stripe.Table, m *model) {
				checkPut(t, x, m, api.Message{UID: uid, Flags: api.Flags(i + 4), Body: []byte{byte(i)}})
			},
			func(t *testing.T, x *stripe.Table, m *model) { checkRemove(t, x, m, uid) },
			func(t *testing.T, x *stripe.Table, m *model) { checkFlags(t, x, m, uid, i%3, api.Flags(9+i)) },
		)
	}
	return append(l,
		func(t *testing.T, x *stripe.Table, m *model) { checkPut(t, x, m, api.Message{UID: 1, Flags: 32}) },
		func(t *testing.T, x *stripe.Table, m *model) { checkFlags(t, x, m, 2, 3, 1) },
	)
}

// Each row of up to three calls that change a table, or may, has the results that the chapter's sentences give (P13.1 to P13.5).
func TestCallsInEveryOrder(t *testing.T) {
	l := calls()
	for _, stripes := range []int{1, 2, 3, 16} {
		rows := 1
		for size := range 4 {
			for row := range rows {
				x, m := made(t, stripes, api.Message{UID: 5, Flags: 8, Body: []byte("five")})
				for rest, i := row, 0; i < size; i++ {
					l[rest%len(l)](t, x, m)
					rest /= len(l)
				}
				check(t, x, m)
			}
			rows *= len(l)
		}
	}
}

// P13.1

func TestNew(t *testing.T) {
	for _, n := range []int{math.MinInt, -1 << 32, -16, -2, -1, 0, 17, 18, 32, 256, 257, 65537, 1 << 32, 1<<32 + 1, math.MaxInt} {
		if stripe.New(n) != nil {
			t.Errorf("New(%d) is not nil", n)
		}
	}
	for n := 1; n <= 16; n++ {
		x := stripe.New(n)
		if x == nil {
			t.Fatalf("New(%d) = nil", n)
		}
		check(t, x, &model{stripes: n})
		if l := x.Sizes(); len(l) != n || slices.Max(l) != 0 || slices.Min(l) != 0 {
			t.Errorf("Sizes of New(%d) = %d", n, l)
		}
	}
}

func TestOf(t *testing.T) {
	for _, c := range []struct {
		stripes int
		uid     uint32
		of      int
	}{
		{4, 7, 3}, {4, 8, 0}, {4, 0, 0}, {4, 1, 1}, {4, most, 3}, {1, 0, 0}, {1, 1, 0}, {1, most, 0}, {2, most, 1}, {2, most - 1, 0},
		{3, 1 << 31, 2}, {3, 1<<31 - 1, 1}, {7, 1 << 31, 2}, {7, most, 3}, {11, most, 3}, {16, most, 15}, {16, 16, 0}, {16, 15, 15}, {15, 15, 0}, {15, most, 0}, {13, most, 8},
	} {
		if of := stripe.New(c.stripes).Of(c.uid); of != c.of {
			t.Errorf("with %d stripes, Of(%d) = %d, want %d", c.stripes, c.uid, of, c.of)
		}
	}
}

// Of does not depend on what the table has, and is where Sizes counts a message.
func TestOfIsWhereSizesCounts(t *testing.T) {
	for n := 1; n <= 16; n++ {
		full, _ := made(t, n, some()...)
		uids := []uint32{1<<31 - 2, 1<<31 - 1, 1 << 31, 1<<31 + 1}
		for i := range uint32(40) {
			uids = append(uids, i+1, most-i)
		}
		m := &model{stripes: n}
		for _, uid := range uids {
			x := stripe.New(n)
			if x.Of(uid) != m.of(uid) || full.Of(uid) != m.of(uid) {
				t.Fatalf("with %d stripes, Of(%d) = %d and %d, want %d", n, uid, x.Of(uid), full.Of(uid), m.of(uid))
			}
			x.Put(api.Message{UID: uid})
			for i, size := range x.Sizes() {
				if (size == 1) != (i == m.of(uid)) || size > 1 {
					t.Fatalf("with %d stripes, Sizes with %d = %d", n, uid, x.Sizes())
				}
			}
		}
	}
}

func TestSizes(t *testing.T) {
	x := stripe.New(4)
	for _, c := range []struct {
		put, remove uint32
		want        []int
	}{
		{7, 0, []int{0, 0, 0, 1}}, {3, 0, []int{0, 0, 0, 2}}, {most, 0, []int{0, 0, 0, 3}}, {8, 0, []int{1, 0, 0, 3}}, {2, 0, []int{1, 0, 1, 3}},
		// What is not added or removed does not count.
		{7, 0, []int{1, 0, 1, 3}}, {0, 4, []int{1, 0, 1, 3}}, {0, 3, []int{1, 0, 1, 2}}, {0, 3, []int{1, 0, 1, 2}}, {5, 8, []int{0, 1, 1, 2}},
	} {
		x.Put(api.Message{UID: c.put})
		x.Remove(c.remove)
		if l := x.Sizes(); !slices.Equal(l, c.want) {
			t.Errorf("after Put of %d and Remove(%d): Sizes = %d, want %d", c.put, c.remove, l, c.want)
		}
	}
}

// P13.2

func TestPut(t *testing.T) {
	for n := 1; n <= 16; n++ {
		x, m := made(t, n)
		for _, c := range some() {
			if e := x.Put(c); e != api.OK {
				t.Fatalf("with %d stripes, Put of %d = %d", n, c.UID, e)
			}
			m.put(c)
			check(t, x, m)
		}
		for _, c := range some() {
			if e := x.Put(c); e != api.ErrDuplicate {
				t.Errorf("with %d stripes, the second Put of %d = %d", n, c.UID, e)
			}
		}
		check(t, x, m)
	}
}

// Of several errors, the one that comes first in the chapter is returned, and nothing changes.
func TestPutErrors(t *testing.T) {
	body := func(n int) []byte { return bytes.Repeat([]byte{'x'}, n) }
	for i, c := range []struct {
		m api.Message
		e api.Code
	}{
		{api.Message{}, api.ErrRange},
		{api.Message{Flags: 31, Body: []byte("x")}, api.ErrRange},
		{api.Message{UID: 1, Flags: 32}, api.ErrRange},
		{api.Message{UID: 1, Flags: 33}, api.ErrRange},
		{api.Message{UID: 1, Flags: 64}, api.ErrRange},
		{api.Message{UID: 1, Flags: 128}, api.ErrRange},
		{api.Message{UID: 1, Flags: 255}, api.ErrRange},
		{api.Message{UID: 1, Body: body(longest + 1)}, api.ErrRange},
		{api.Message{UID: 1, Body: body(2 * longest)}, api.ErrRange},
		{api.Message{UID: 7, Flags: 1, Body: []byte("new")}, api.ErrDuplicate},
		{api.Message{UID: 7, Flags: 8, Body: []byte("old")}, api.ErrDuplicate},
		{api.Message{UID: 7, Body: body(longest)}, api.ErrDuplicate},
		{api.Message{UID: 7, Flags: 32}, api.ErrRange},
		{api.Message{UID: 7, Body: body(longest + 1)}, api.ErrRange},
		{api.Message{UID: 0, Flags: 255, Body: body(longest + 1)}, api.ErrRange},
	} {
		for _, n := range []int{1, 4, 7, 16} {
			x, m := made(t, n, api.Message{UID: 7, Flags: 8, Body: []byte("old")})
			if e := x.Put(c.m); e != c.e {
				t.Errorf("with %d stripes, case %d: Put = %d, want %d", n, i, e, c.e)
			}
			check(t, x, m)
		}
	}
}

// Exactly the flags of which a message can have some are accepted, and are kept.
func TestPutEveryFlags(t *testing.T) {
	for i := range 256 {
		f := api.Flags(i)
		x := stripe.New(3)
		e := x.Put(api.Message{UID: 7, Flags: f})
		m, ok := x.Get(7)
		if i < 32 && (e != api.OK || !ok || m.Flags != f) || i >= 32 && (e != api.ErrRange || ok || m.Flags != 0) {
			t.Errorf("Put with the flags %d = %d, and Get = %v, %v", f, e, m, ok)
		}
	}
}

func TestPutLengths(t *testing.T) {
	x := stripe.New(5)
	for i, n := range []int{0, 1, 2, 8191, 8192, 8193, 65535, 65536} {
		body := []byte(strings.Repeat("\x00\r\n\xff{}", n/6+1)[:n])
		uid := uint32(i + 1)
		if e := x.Put(api.Message{UID: uid, Body: body}); e != api.OK {
			t.Errorf("Put with %d bytes = %d", n, e)
		}
		if m, ok := x.Get(uid); !ok || !bytes.Equal(m.Body, body) {
			t.Errorf("Get after Put with %d bytes = %d bytes, %v", n, len(m.Body), ok)
		}
	}
}

// A table has no capacity: it takes more messages than a mailbox may have, also into a single stripe.
func TestPutMany(t *testing.T) {
	for _, n := range []int{1, 2, 16} {
		x := stripe.New(n)
		for i := range uint32(5000) {
			if e := x.Put(api.Message{UID: (i + 1) * 16}); e != api.OK {
				t.Fatalf("with %d stripes, Put after %d messages = %d", n, i, e)
			}
		}
		if l := x.Sizes(); l[0] != 5000 || len(x.With(0)) != 5000 {
			t.Errorf("with %d stripes, Sizes = %d", n, l)
		}
	}
}

// An identifier is free again after Remove, for any message.
func TestPutAfterRemove(t *testing.T) {
	x, m := made(t, 4, some()...)
	for _, c := range some() {
		checkRemove(t, x, m, c.UID)
		again := api.Message{UID: c.UID, Flags: c.Flags ^ 31, Body: append(c.Body, "again"...)}
		if e := x.Put(again); e != api.OK {
			t.Errorf("Put of %d after Remove = %d", c.UID, e)
		}
		m.put(again)
		check(t, x, m)
	}
}

// P13.3

func TestGet(t *testing.T) {
	for n := 1; n <= 16; n++ {
		x, m := made(t, n, some()...)
		for range 2 {
			for _, want := range some() {
				if c, ok := x.Get(want.UID); !ok || !same(c, want) {
					t.Errorf("with %d stripes, Get(%d) = %v, %v", n, want.UID, c, ok)
				}
			}
			// These share stripes with messages, or have none in theirs.
			for _, uid := range []uint32{0, 2, 5, 8, 10, 11, 12, 13, 14, 15, 17, 1<<31 - 1, 1<<31 + 1, most - 1, most - 16} {
				if c, ok := x.Get(uid); ok || c.UID != 0 || c.Flags != 0 || len(c.Body) != 0 {
					t.Errorf("with %d stripes, Get(%d) = %v, %v", n, uid, c, ok)
				}
			}
		}
		check(t, x, m)
	}
}

func TestRemove(t *testing.T) {
	for n := 1; n <= 16; n++ {
		x, m := made(t, n, some()...)
		for _, uid := range []uint32{0, 2, 5, 17, most - 1} {
			if c, ok := x.Remove(uid); ok || c.UID != 0 || c.Flags != 0 || len(c.Body) != 0 {
				t.Errorf("with %d stripes, Remove(%d) = %v, %v", n, uid, c, ok)
			}
		}
		check(t, x, m)
		for _, want := range some() {
			if c, ok := x.Remove(want.UID); !ok || !same(c, want) {
				t.Errorf("with %d stripes, Remove(%d) = %v, %v", n, want.UID, c, ok)
			}
			m.remove(want.UID)
			check(t, x, m)
			if c, ok := x.Remove(want.UID); ok || c.UID != 0 || c.Flags != 0 || len(c.Body) != 0 {
				t.Errorf("with %d stripes, the second Remove(%d) = %v, %v", n, want.UID, c, ok)
			}
		}
	}
}

// Remove returns the flags that the message has, not those that it was added with.
func TestRemoveAfterFlags(t *testing.T) {
	x, _ := made(t, 2, some()...)
	x.Flags(9, api.Add, api.Draft)
	if c, ok := x.Remove(9); !ok || !same(c, api.Message{UID: 9, Flags: 24, Body: []byte("nine")}) {
		t.Errorf("Remove(9) = %v, %v", c, ok)
	}
}

// P13.4

// All flags are changed by all flags in all modes, and some that are none.
func TestFlagsOfEveryMode(t *testing.T) {
	for old := range api.Flags(32) {
		for _, mode := range []int{math.MinInt, -1, 0, 1, 2, 3, 256, 1 << 32, math.MaxInt} {
			for i := range 256 {
				f := api.Flags(i)
				x := stripe.New(3)
				x.Put(api.Message{UID: 7, Flags: old, Body: []byte("x")})
				want, ok := changed(old, mode, f)
				wantE, has := api.OK, want
				if !ok {
					wantE, has = api.ErrRange, old
				}
				if after, e := x.Flags(7, mode, f); after != want || e != wantE {
					t.Fatalf("from %d on, Flags(7, %d, %d) = %d, %d, want %d, %d", old, mode, f, after, e, want, wantE)
				}
				if m, ok := x.Get(7); !ok || !same(m, api.Message{UID: 7, Flags: has, Body: []byte("x")}) {
					t.Fatalf("from %d on, after Flags(7, %d, %d): %v, %v", old, mode, f, m, ok)
				}
			}
		}
	}
}

// A message that is not there comes before flags and modes that are wrong, and nothing is added.
func TestFlagsErrors(t *testing.T) {
	for i, c := range []struct {
		uid  uint32
		mode int
		f    api.Flags
		e    api.Code
	}{
		{0, 0, 0, api.ErrUnknown}, {2, api.Add, 1, api.ErrUnknown}, {2, api.Add, 32, api.ErrUnknown}, {2, 3, 1, api.ErrUnknown}, {2, -1, 255, api.ErrUnknown}, {5, api.Replace, 31, api.ErrUnknown}, {most - 1, api.Remove, 31, api.ErrUnknown}, {0, 3, 32, api.ErrUnknown},
		{9, 3, 1, api.ErrRange}, {9, -1, 1, api.ErrRange}, {9, api.Add, 32, api.ErrRange}, {9, api.Remove, 32, api.ErrRange}, {9, api.Replace, 63, api.ErrRange}, {9, api.Add, 136, api.ErrRange}, {most, 3, 255, api.ErrRange}, {1, 3, 0, api.ErrRange},
	} {
		for _, n := range []int{1, 2, 4, 7, 16} {
			x, m := made(t, n, some()...)
			if after, e := x.Flags(c.uid, c.mode, c.f); after != 0 || e != c.e {
				t.Errorf("with %d stripes, case %d: Flags = %d, %d, want 0, %d", n, i, after, e, c.e)
			}
			check(t, x, m)
		}
	}
}

// Changes build upon each other, and each one changes one message alone.
func TestFlags(t *testing.T) {
	for n := 1; n <= 16; n++ {
		x, m := made(t, n, some()...)
		for i, c := range []struct {
			uid  uint32
			mode int
			f    api.Flags
			want api.Flags
		}{
			{9, api.Add, 16, 24}, {9, api.Remove, 8, 16}, {9, api.Remove, 8, 16}, {9, api.Replace, 3, 3}, {9, api.Replace, 0, 0}, {9, api.Add, 0, 0}, {9, api.Add, 31, 31}, {9, api.Remove, 31, 0},
			{most, api.Remove, 4, 27}, {1 << 31, api.Add, 4, 4}, {1, api.Remove, 31, 0}, {3, api.Replace, 31, 31}, {16, api.Replace, 5, 5},
		} {
			if after, e := x.Flags(c.uid, c.mode, c.f); after != c.want || e != api.OK {
				t.Errorf("with %d stripes, change %d: Flags = %d, %d, want %d, 0", n, i, after, e, c.want)
			}
			m.flags(c.uid, c.mode, c.f)
			check(t, x, m)
		}
		x.Remove(9)
		if after, e := x.Flags(9, api.Add, 1); after != 0 || e != api.ErrUnknown {
			t.Errorf("with %d stripes, Flags after Remove = %d, %d", n, after, e)
		}
	}
}

// P13.5

func TestWith(t *testing.T) {
	for n := 1; n <= 16; n++ {
		x, _ := made(t, n, some()...)
		for _, c := range []struct {
			f    api.Flags
			want []uint32
		}{
			{0, []uint32{1, 3, 4, 9, 16, 1 << 31, most}},
			{api.Answered, []uint32{16, most}},
			{api.Flagged, []uint32{most}},
			{api.Deleted, []uint32{4, 16, 1 << 31, most}},
			{api.Seen, []uint32{4, 9, most}},
			{api.Draft, []uint32{3, most}},
			{api.Seen | api.Deleted, []uint32{4, most}},
			{api.Answered | api.Deleted, []uint32{16, most}},
			{api.Answered | api.Seen, []uint32{most}},
			{api.AllFlags, []uint32{most}},
			// No message has a bit that is no flag.
			{32, nil}, {64, nil}, {128, nil}, {255, nil}, {224, nil}, {36, nil}, {63, nil},
		} {
			if l := x.With(c.f); !slices.Equal(l, c.want) {
				t.Errorf("with %d stripes, With(%d) = %d, want %d", n, c.f, l, c.want)
			}
		}
	}
}

// Each flags ask for exactly the flags that have all their bits.
func TestWithEveryFlags(t *testing.T) {
	x, m := made(t, 5)
	for f := range api.Flags(32) {
		checkPut(t, x, m, api.Message{UID: most - uint32(f)*uint32(f), Flags: f})
	}
	for i := range 256 {
		f := api.Flags(i)
		if l := x.With(f); !slices.Equal(l, m.with(f)) {
			t.Errorf("With(%d) = %d, want %d", f, l, m.with(f))
		}
	}
}

// The order is that of the identifiers, however they are spread over the stripes and in whichever order they are added.
func TestWithInOrder(t *testing.T) {
	for n := 1; n <= 16; n++ {
		x := stripe.New(n)
		var all, seen []uint32
		for i := range uint32(1000) {
			uid := i*2654435761 + 1
			f := api.Flags(uid >> 7 % 32)
			x.Put(api.Message{UID: uid, Flags: f})
			all = append(all, uid)
			if f&8 != 0 {
				seen = append(seen, uid)
			}
		}
		slices.Sort(all)
		slices.Sort(seen)
		if l := x.With(0); !slices.Equal(l, all) {
			t.Fatalf("with %d stripes, With(0) = %d", n, l)
		}
		if l := x.With(api.Seen); !slices.Equal(l, seen) || len(l) == 0 {
			t.Fatalf("with %d stripes, With(Seen) = %d", n, l)
		}
	}
}

// P13.6

// A table gets thousands of messages, loses some of them on the way, and all of them at the end.
func TestSizesAddUp(t *testing.T) {
	for n := 1; n <= 16; n++ {
		x, count := stripe.New(n), 0
		for i := range uint32(3 * 4200) {
			uid := i*40503%5003 + i%11*(most/11)
			if i%3 > 0 || i < 4200 {
				if x.Put(api.Message{UID: uid, Flags: api.Flags(i % 33)}) == api.OK {
					count++
				}
			} else if _, ok := x.Remove(uid * 3); ok {
				count--
			}
			if i%100 > 0 {
				continue
			}
			sum := 0
			for _, size := range x.Sizes() {
				sum += size
			}
			if sum != count || len(x.With(0)) != count {
				t.Fatalf("with %d stripes, Sizes = %d, With(0) has %d, want %d", n, x.Sizes(), len(x.With(0)), count)
			}
		}
		if count < 4096 {
			t.Fatalf("only %d messages", count)
		}
		for _, uid := range x.With(0) {
			if _, ok := x.Remove(uid); !ok {
				t.Fatalf("with %d stripes, Remove(%d) = false", n, uid)
			}
		}
		check(t, x, &model{stripes: n})
	}
}

// P1, P2 and the rules

func TestNil(t *testing.T) {
	var x *stripe.Table
	for _, uid := range few {
		for _, c := range []api.Message{{UID: uid}, {UID: uid, Flags: 255}, {UID: uid, Body: make([]byte, longest+1)}} {
			if e := x.Put(c); e != api.ErrNil {
				t.Errorf("Put = %d", e)
			}
		}
		for _, mode := range []int{-1, 0, 1, 2, 3} {
			for _, f := range []api.Flags{0, 31, 32, 255} {
				if after, e := x.Flags(uid, mode, f); after != 0 || e != api.ErrNil {
					t.Errorf("Flags(%d, %d, %d) = %d, %d", uid, mode, f, after, e)
				}
			}
		}
		if c, ok := x.Get(uid); ok || c.UID != 0 || c.Flags != 0 || len(c.Body) != 0 {
			t.Errorf("Get(%d) = %v, %v", uid, c, ok)
		}
		if c, ok := x.Remove(uid); ok || c.UID != 0 || c.Flags != 0 || len(c.Body) != 0 {
			t.Errorf("Remove(%d) = %v, %v", uid, c, ok)
		}
		if of := x.Of(uid); of != 0 {
			t.Errorf("Of(%d) = %d", uid, of)
		}
	}
	if x.Stripes() != 0 || len(x.Sizes()) != 0 || len(x.With(0)) != 0 || len(x.With(31)) != 0 || len(x.With(255)) != 0 {
		t.Errorf("%d, %d, %d", x.Stripes(), x.Sizes(), x.With(0))
	}
}

// Put neither modifies nor keeps the body, and neither reads nor writes what lies beyond its length.
func TestArgumentsAreNotKept(t *testing.T) {
	x := stripe.New(3)
	room := []byte("abcdefgh")
	if e := x.Put(api.Message{UID: 7, Flags: 1, Body: room[:3]}); e != api.OK {
		t.Fatal(e)
	}
	x.Put(api.Message{UID: 7, Body: room[3:5]})
	c, _ := x.Get(7)
	_ = append(c.Body, "xyz"...)
	if string(room) != "abcdefgh" {
		t.Errorf("the body is then %q", room)
	}
	copy(room, "12345678")
	if c, ok := x.Get(7); !ok || string(c.Body) != "abc" {
		t.Errorf("Get = %q, %v", c.Body, ok)
	}
	copy(room, "87654321")
	if c, ok := x.Remove(7); !ok || string(c.Body) != "abc" {
		t.Errorf("Remove = %q, %v", c.Body, ok)
	}
}

// A result shares memory neither with the table nor with another result.
func TestResultsAreNotShared(t *testing.T) {
	x, m := made(t, 4, some()...)
	a, _ := x.Get(9)
	b, _ := x.Get(9)
	a.Body[0] = 'x'
	_ = append(a.Body[:1], "yz"...)
	if string(b.Body) != "nine" {
		t.Errorf("the other result is then %q", b.Body)
	}
	for range 2 {
		for i, l := 0, x.Sizes(); i < len(l); i++ {
			l[i] = 100
		}
		for _, f := range []api.Flags{0, 8, 31} {
			for i, l := 0, x.With(f); i < len(l); i++ {
				l[i] = 100
			}
		}
		check(t, x, m)
	}
	sizes, all := x.Sizes(), x.With(0)
	gone, _ := x.Remove(9)
	b.Body[1] = 'x'
	if string(gone.Body) != "nine" {
		t.Errorf("what Remove has returned is then %q", gone.Body)
	}
	x.Put(gone)
	gone.Body[2] = 'x'
	check(t, x, &model{stripes: 4, l: some()})
	x.Put(api.Message{UID: 2})
	if !slices.Equal(sizes, []int{3, 2, 0, 2}) || !slices.Equal(all, []uint32{1, 3, 4, 9, 16, 1 << 31, most}) {
		t.Errorf("the older results are then %d and %d", sizes, all)
	}
}

// Tables that were made separately have nothing in common, even if they got the same messages (P2).
func TestTablesAreIndependent(t *testing.T) {
	var xs []*stripe.Table
	var ms []*model
	shared := some()
	for range 2 {
		for _, n := range []int{1, 2, 4, 16} {
			x, m := made(t, n, shared...)
			xs, ms = append(xs, x), append(ms, m)
		}
	}
	l := calls()
	for i := range 500 {
		k := i * 7 % len(xs)
		l[i*5%len(l)](t, xs[k], ms[k])
		if i%9 == 0 {
			c, _ := xs[k].Get(9)
			for j := range c.Body {
				c.Body[j] = 'x'
			}
		}
		for j := range xs {
			check(t, xs[j], ms[j])
		}
	}
}

// The functions may be called concurrently, each table by one goroutine, even if they get the same messages.
func TestConcurrentTables(t *testing.T) {
	shared := some()
	var wg sync.WaitGroup
	for n := 1; n <= 16; n++ {
		wg.Go(func() {
			for range 50 {
				x := stripe.New(n)
				for _, c := range shared {
					if e := x.Put(c); e != api.OK {
						t.Errorf("Put of %d = %d", c.UID, e)
						return
					}
				}
				after, e := x.Flags(9, api.Add, api.Draft)
				c, ok := x.Remove(9)
				if after != 24 || e != api.OK || !ok || !same(c, api.Message{UID: 9, Flags: 24, Body: []byte("nine")}) || !slices.Equal(x.With(api.Draft), []uint32{3, most}) {
					t.Errorf("with %d stripes: %d, %d, %v, %v, %d", n, after, e, c, ok, x.With(api.Draft))
					return
				}
			}
		})
	}
	wg.Wait()
}
