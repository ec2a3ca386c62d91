package view_test

import (
	"math"
	"slices"
	"strconv"
	"testing"

	"cubbyhole/api"
	"cubbyhole/resp"
	"cubbyhole/view"
)

// most is the greatest identifier.
const most = 4294967295

// nums returns numbers as a list.
func nums(l ...uint32) []uint32 { return l }

// row returns events as a list.
func row(l ...api.Event) []api.Event { return l }

// event returns an event. Its flags are those of Changed only, but all kinds have some.
func event(kind int, uid uint32) api.Event {
	return api.Event{Kind: kind, UID: uid, Flags: api.Flags(uid % 32)}
}

// arrived returns an event Arrived.
func arrived(uid uint32) api.Event { return event(1, uid) }

// gone returns an event Gone.
func gone(uid uint32) api.Event { return event(2, uid) }

// changed returns an event Changed.
func changed(uid uint32) api.Event { return event(3, uid) }

// told returns responses as a list.
func told(l ...api.Response) []api.Response { return l }

// exists returns a response Exists.
func exists(n uint32) api.Response { return api.Response{Kind: 1, N: n} }

// expunged returns a response Expunged.
func expunged(n uint32) api.Response { return api.Response{Kind: 3, N: n} }

// fetched returns a response Fetched with flags alone.
func fetched(n uint32, f api.Flags) api.Response {
	return api.Response{Kind: 4, N: n, Items: 1, Flags: f}
}

// model is a view as the chapter's sentences give it.
type model struct{ l []uint32 }

// made returns a view and its model.
func made(t *testing.T, uids ...uint32) (*view.View, *model) {
	t.Helper()
	v := view.New(uids...)
	if v == nil {
		t.Fatalf("New(%d) = nil", uids)
	}
	m := &model{}
	for _, uid := range uids {
		if uid > 0 && !slices.Contains(m.l, uid) {
			m.l = append(m.l, uid)
		}
	}
	slices.Sort(m.l)
	return v, m
}

// seq returns what Seq is to return.
func (m *model) seq(uid uint32) int { return slices.Index(m.l, uid) + 1 }

// at returns what At is to return.
func (m *model) at(seq int) (uint32, bool) {
	for i, uid := range m.l {
		if seq == i+1 {
			return uid, true
		}
	}
	return 0, false
}

// apply returns what Apply is to return.
func (m *model) apply(l []api.Event) []api.Response {
	var out []api.Response
	grown := false
	for i, e := range l {
		seq := m.seq(e.UID)
		switch e.Kind {
		case 1:
			if e.UID > 0 && (len(m.l) == 0 || e.UID > slices.Max(m.l)) {
				m.l = append(m.l, e.UID)
				grown = true
			}
			if last := i == len(l)-1 || l[i+1].Kind != 1; last && grown {
				out = append(out, exists(uint32(len(m.l))))
				grown = false
			}
		case 2:
			if seq > 0 {
				m.l = slices.Delete(m.l, seq-1, seq)
				out = append(out, expunged(uint32(seq)))
			}
		case 3:
			if seq > 0 {
				out = append(out, fetched(uint32(seq), e.Flags))
			}
		}
	}
	return out
}

// same reports whether two lists of responses are equal.
func same(a, b []api.Response) bool { return slices.EqualFunc(a, b, resp.Same) }

// check compares everything that a view says with what it is to say.
func check(t *testing.T, v *view.View, m *model) {
	t.Helper()
	if l, n := v.UIDs(), v.Len(); !slices.Equal(l, m.l) || n != len(m.l) {
		t.Fatalf("UIDs = %d, Len = %d, want %d", l, n, m.l)
	}
	for _, seq := range []int{math.MinInt, -len(m.l), -1, 0, 1, 2, 3, len(m.l) - 1, len(m.l), len(m.l) + 1, 1<<32 + 1, math.MaxInt} {
		uid, ok := v.At(seq)
		if want, wantOK := m.at(seq); uid != want || ok != wantOK {
			t.Fatalf("of %d: At(%d) = %d, %v, want %d, %v", m.l, seq, uid, ok, want, wantOK)
		}
	}
	for _, uid := range append(slices.Clone(m.l), 0, 1, 2, 3, 4, 5, 6, 1<<31, most) {
		if seq := v.Seq(uid); seq != m.seq(uid) {
			t.Fatalf("of %d: Seq(%d) = %d, want %d", m.l, uid, seq, m.seq(uid))
		}
	}
}

// checkApply calls Apply, and compares what it returns, and the view afterwards, with what they are to be.
func checkApply(t *testing.T, v *view.View, m *model, l ...api.Event) {
	t.Helper()
	before := slices.Clone(m.l)
	if got, want := v.Apply(l...), m.apply(l); !same(got, want) {
		t.Fatalf("of %d: Apply(%v) = %v, want %v", before, l, got, want)
	}
	check(t, v, m)
}

// eachRow calls a function with each row of up to some numbers, each of them less than n.
func eachRow(size, n int, f func(row []int)) {
	f(nil)
	for i := range n {
		if size > 0 {
			eachRow(size-1, n, func(row []int) { f(append([]int{i}, row...)) })
		}
	}
}

// few are the events of the exhaustive tests, in views of messages from 2 to 5.
func few() []api.Event {
	return row(arrived(0), arrived(5), arrived(6), arrived(7), gone(2), gone(6), changed(5), changed(6), event(4, 8))
}

// P17.1

// All rows of up to five numbers make a view of those that are greater than 0, each once.
func TestNew(t *testing.T) {
	some := nums(0, 1, 2, 5, 1<<31, most)
	eachRow(5, len(some), func(row []int) {
		var l []uint32
		for _, i := range row {
			l = append(l, some[i])
		}
		v, m := made(t, l...)
		check(t, v, m)
	})
}

func TestNewOfMany(t *testing.T) {
	var l []uint32
	for i := range uint32(3000) {
		l = append(l, i*7919%4001, i*13%500)
	}
	v, m := made(t, l...)
	check(t, v, m)
	for seq := -2; seq < len(m.l)+3; seq++ {
		uid, ok := v.At(seq)
		if want, wantOK := m.at(seq); uid != want || ok != wantOK {
			t.Errorf("At(%d) = %d, %v", seq, uid, ok)
		}
	}
	for uid := range uint32(4100) {
		if seq := v.Seq(uid); seq != m.seq(uid) {
			t.Errorf("Seq(%d) = %d, want %d", uid, seq, m.seq(uid))
		}
	}
}

// At and Seq invert each other, after events, too.
func TestAtAndSeq(t *testing.T) {
	v := view.New(3, 5, 9, 700, most-1)
	v.Apply(gone(5), arrived(most), gone(700))
	for i, want := range nums(3, 9, most-1, most) {
		if uid, ok := v.At(i + 1); uid != want || !ok || v.Seq(want) != i+1 {
			t.Errorf("At(%d) = %d, %v, and Seq(%d) = %d", i+1, uid, ok, want, v.Seq(want))
		}
	}
	for _, uid := range nums(0, 1, 4, 5, 10, 700, 3+1<<16, 1<<31, most-2) {
		if seq := v.Seq(uid); seq != 0 {
			t.Errorf("Seq(%d) = %d", uid, seq)
		}
	}
}

// P17.2

func TestChapterExample(t *testing.T) {
	v := view.New(3, 5, 9)
	if l := v.Apply(gone(5), arrived(12), arrived(13)); !same(l, told(expunged(2), exists(4))) {
		t.Errorf("Apply = %v", l)
	}
	if l := v.UIDs(); !slices.Equal(l, nums(3, 9, 12, 13)) {
		t.Errorf("UIDs = %d", l)
	}
}

func TestApply(t *testing.T) {
	for i, c := range []struct {
		uids   []uint32
		events []api.Event
		told   []api.Response
		after  []uint32
	}{
		{nil, nil, nil, nil},
		{nums(3, 5), nil, nil, nums(3, 5)},
		// Arrived: one response for those that follow each other directly, if one of them has an effect.
		{nil, row(arrived(1)), told(exists(1)), nums(1)},
		{nil, row(arrived(0)), nil, nil},
		{nil, row(arrived(0), arrived(1)), told(exists(1)), nums(1)},
		{nums(3, 5), row(arrived(6), arrived(9), arrived(most)), told(exists(5)), nums(3, 5, 6, 9, most)},
		{nums(3, 5), row(arrived(6), arrived(6)), told(exists(3)), nums(3, 5, 6)},
		{nums(3, 5), row(arrived(6), arrived(0), arrived(4), arrived(3)), told(exists(3)), nums(3, 5, 6)},
		{nums(3, 5), row(arrived(5), arrived(4), arrived(6)), told(exists(3)), nums(3, 5, 6)},
		{nums(3, 5), row(arrived(9), arrived(7), arrived(10)), told(exists(4)), nums(3, 5, 9, 10)},
		{nums(3, 5), row(arrived(5), arrived(4), arrived(0), arrived(1)), nil, nums(3, 5)},
		{nums(3, most), row(arrived(most), arrived(4), arrived(0)), nil, nums(3, most)},
		// Any other event ends such a row, with an effect or without one.
		{nums(3), row(arrived(6), gone(9), arrived(7)), told(exists(2), exists(3)), nums(3, 6, 7)},
		{nums(3), row(arrived(6), gone(3), arrived(7)), told(exists(2), expunged(1), exists(2)), nums(6, 7)},
		{nums(3), row(arrived(6), gone(6), arrived(6)), told(exists(2), expunged(2), exists(2)), nums(3, 6)},
		{nums(3), row(arrived(6), changed(9), arrived(7)), told(exists(2), exists(3)), nums(3, 6, 7)},
		{nums(3), row(arrived(6), changed(6), arrived(7), changed(7)), told(exists(2), fetched(2, 6), exists(3), fetched(3, 7)), nums(3, 6, 7)},
		{nums(3), row(arrived(6), event(0, 7), arrived(7)), told(exists(2), exists(3)), nums(3, 6, 7)},
		{nums(3), row(arrived(6), event(4, 3), arrived(6)), told(exists(2)), nums(3, 6)},
		{nums(3), row(arrived(2), event(4, 3), arrived(6)), told(exists(2)), nums(3, 6)},
		// Gone: the sequence number is that at the time of the event.
		{nums(3, 5, 9), row(gone(3), gone(5), gone(9)), told(expunged(1), expunged(1), expunged(1)), nil},
		{nums(3, 5, 9), row(gone(9), gone(5), gone(3)), told(expunged(3), expunged(2), expunged(1)), nil},
		{nums(3, 5, 9), row(gone(5), gone(5), gone(9)), told(expunged(2), expunged(2)), nums(3)},
		{nums(3, 5, 9), row(gone(0), gone(4), gone(10), gone(most)), nil, nums(3, 5, 9)},
		{nil, row(gone(0), gone(1)), nil, nil},
		// A message that is gone may come back, if it is greater than the others.
		{nums(3, 5), row(gone(5), arrived(5), gone(3), arrived(3)), told(expunged(2), exists(2), expunged(1)), nums(5)},
		// Changed: told only of a message that is there.
		{nums(3, 5, 9), row(changed(9), changed(5), changed(9)), told(fetched(3, 9), fetched(2, 5), fetched(3, 9)), nums(3, 5, 9)},
		{nums(3, 5, 9), row(gone(3), changed(9), changed(3)), told(expunged(1), fetched(2, 9)), nums(5, 9)},
		{nums(3, 5, 9), row(changed(0), changed(4), changed(most)), nil, nums(3, 5, 9)},
	} {
		v, m := made(t, c.uids...)
		if l := v.Apply(c.events...); !same(l, c.told) {
			t.Errorf("case %d: Apply = %v, want %v", i, l, c.told)
		}
		if l := v.UIDs(); !slices.Equal(l, c.after) {
			t.Errorf("case %d: UIDs = %d, want %d", i, l, c.after)
		}
		m.apply(c.events)
		check(t, v, m)
	}
}

// Each row of up to four events has the responses and the view that the chapter's sentences give.
func TestEventsInEveryOrder(t *testing.T) {
	l := few()
	for _, uids := range [][]uint32{nil, nums(2, 5), nums(2, 3, 6)} {
		eachRow(4, len(l), func(picked []int) {
			var events []api.Event
			for _, i := range picked {
				events = append(events, l[i])
			}
			v, m := made(t, uids...)
			checkApply(t, v, m, events...)
		})
	}
}

// A row of events of one call does not go on in the next call, however the events are divided among calls.
func TestCallsInEveryOrder(t *testing.T) {
	l := few()
	eachRow(4, len(l), func(picked []int) {
		for cut := range picked {
			v, m := made(t, 2, 5)
			var events []api.Event
			for i, k := range picked {
				if i == cut {
					checkApply(t, v, m, events...)
					events = nil
				}
				events = append(events, l[k])
			}
			checkApply(t, v, m, events...)
		}
	})
}

// Events of other kinds have no effect, but to end a row of events Arrived.
func TestOtherKinds(t *testing.T) {
	for _, kind := range []int{math.MinInt, -1<<32 + 1, -3, -2, -1, 0, 4, 5, 6, 7, 255, 256 + 1, 1 << 16, 1<<32 + 1, 1<<32 + 2, 1<<32 + 3, math.MaxInt} {
		for _, uid := range nums(0, 1, 3, 5, 6, most) {
			v, m := made(t, 3, 5)
			checkApply(t, v, m, event(kind, uid))
			if l := v.UIDs(); !slices.Equal(l, nums(3, 5)) {
				t.Errorf("after the kind %d with %d: UIDs = %d", kind, uid, l)
			}
			l := v.Apply(event(kind, uid), arrived(8), event(kind, uid), event(kind, uid), arrived(9), arrived(10), event(kind, uid))
			if !same(l, told(exists(3), exists(5))) {
				t.Errorf("the kind %d with %d: Apply = %v", kind, uid, l)
			}
		}
	}
}

// The flags of the event are told as they are; those of the message before, and those of other events, do not matter.
func TestFlags(t *testing.T) {
	for f := range 256 {
		v, m := made(t, 3, 5)
		flags := api.Flags(f)
		checkApply(t, v, m, api.Event{Kind: 3, UID: 5, Flags: flags}, api.Event{Kind: 3, UID: 5, Flags: ^flags}, api.Event{Kind: 3, UID: 4, Flags: flags})
		l := v.Apply(api.Event{Kind: 1, UID: 6, Flags: flags}, api.Event{Kind: 2, UID: 3, Flags: flags}, api.Event{Kind: 3, UID: 6, Flags: flags})
		if !same(l, told(exists(3), expunged(1), fetched(2, flags))) {
			t.Errorf("Apply = %v", l)
		}
	}
}

// P17.3

// follow returns what Follow is to return.
func follow(n int, kind int, number uint32) (int, bool) {
	in := number >= 1 && int64(number) <= int64(n)
	if kind == 1 && int64(number) >= int64(n) {
		return int(number), true
	}
	if kind == 3 && in {
		return n - 1, true
	}
	return n, kind != 1 && kind != 3 && (kind != 4 || in)
}

// The other fields of a response do not matter.
func TestFollow(t *testing.T) {
	counts := []int{0, 1, 2, 3, 4, 5, 4095, 4096, 1<<31 - 1, 1 << 31, most - 1, most, 1 << 32, 1<<32 + 3, math.MaxInt - 1, math.MaxInt}
	numbers := nums(0, 1, 2, 3, 4, 5, 6, 4095, 4096, 4097, 1<<31-1, 1<<31, 1<<31+1, most-1, most)
	kinds := []int{math.MinInt, -1, 0, 1, 2, 3, 4, 5, 6, 7, 8, 9, 10, 11, 255, 256 + 3, 1<<32 + 1, math.MaxInt}
	for _, n := range counts {
		for _, number := range numbers {
			for _, kind := range kinds {
				want, wantOK := follow(n, kind, number)
				for _, r := range told(
					api.Response{Kind: kind, N: number},
					api.Response{Kind: kind, N: number, Tag: "a", Status: 2, Text: "x", Items: 31, Flags: 8, UID: 7, Size: 9, Body: []byte("b")},
				) {
					if got, ok := view.Follow(n, r); got != want || ok != wantOK {
						t.Errorf("Follow(%d, %v) = %d, %v, want %d, %v", n, r, got, ok, want, wantOK)
					}
				}
			}
		}
	}
}

func TestFollowTable(t *testing.T) {
	for i, c := range []struct {
		n    int
		r    api.Response
		want int
		ok   bool
	}{
		{0, exists(0), 0, true}, {0, exists(1), 1, true}, {5, exists(5), 5, true}, {5, exists(most), most, true},
		{5, exists(4), 5, false}, {1, exists(0), 1, false}, {math.MaxInt, exists(most), math.MaxInt, false},
		{5, expunged(1), 4, true}, {5, expunged(5), 4, true}, {1, expunged(1), 0, true}, {math.MaxInt, expunged(most), math.MaxInt - 1, true},
		{5, expunged(6), 5, false}, {5, expunged(0), 5, false}, {0, expunged(0), 0, false}, {0, expunged(1), 0, false}, {5, expunged(most), 5, false},
		{5, fetched(1, 0), 5, true}, {5, fetched(5, 31), 5, true},
		{5, fetched(6, 0), 5, false}, {5, fetched(0, 0), 5, false}, {0, fetched(0, 0), 0, false}, {0, fetched(1, 0), 0, false}, {5, fetched(most, 0), 5, false},
		{5, api.Response{Kind: 2, N: 9}, 5, true}, {5, api.Response{Kind: 2}, 5, true},
		{5, api.Response{Kind: 5}, 5, true}, {5, api.Response{Kind: 6, Text: "x"}, 5, true}, {5, api.Response{Kind: 7, Text: "x"}, 5, true},
		{5, api.Response{Kind: 8, Text: "x"}, 5, true}, {5, api.Response{Kind: 9, Tag: "a", Text: "x"}, 5, true}, {5, api.Response{Kind: 10, Text: "x"}, 5, true},
		{5, api.Response{}, 5, true}, {5, api.Response{Kind: -1, N: 7}, 5, true}, {5, api.Response{Kind: 11, N: 7}, 5, true},
	} {
		if n, ok := view.Follow(c.n, c.r); n != c.want || ok != c.ok {
			t.Errorf("case %d: Follow = %d, %v", i, n, ok)
		}
	}
}

// P17.4

// checkFollowed follows the responses of events, and compares the number that a client knows with that of the view.
func checkFollowed(t *testing.T, v *view.View, n int, l ...api.Event) int {
	t.Helper()
	for _, r := range v.Apply(l...) {
		after, ok := view.Follow(n, r)
		if !ok {
			t.Fatalf("of %v: %v must not be sent to a client that knows %d messages", l, r, n)
		}
		n = after
	}
	if n != v.Len() {
		t.Fatalf("after %v, the client knows %d messages, not %d", l, n, v.Len())
	}
	return n
}

func TestFollowedInEveryOrder(t *testing.T) {
	l := few()
	for _, uids := range [][]uint32{nil, nums(2), nums(2, 5, 6)} {
		eachRow(4, len(l), func(picked []int) {
			var events []api.Event
			for _, i := range picked {
				events = append(events, l[i])
			}
			v := view.New(uids...)
			n := checkFollowed(t, v, v.Len(), events...)
			checkFollowed(t, v, n, events...)
		})
	}
}

// Events of any kinds and numbers, a few of them at a time.
func TestFollowedForLong(t *testing.T) {
	v, m := made(t, 4, 8, 12)
	n := 3
	var events []api.Event
	for i := range 20000 {
		uid := uint32(i/3 + i*i%40)
		events = append(events, event((i*7+i*i/13)%5, uid))
		if i*i%11 == 4 {
			n = checkFollowed(t, v, n, events...)
			m.apply(events)
			check(t, v, m)
			events = nil
		}
	}
	if n == 0 || n == 3 {
		t.Errorf("at the end, the client knows %d messages", n)
	}
}

// P1, P2 and the rules

func TestNil(t *testing.T) {
	var v *view.View
	for range 2 {
		if v.Len() != 0 || len(v.UIDs()) != 0 {
			t.Error("not zero values")
		}
		for _, n := range []int{math.MinInt, -1, 0, 1, 2, math.MaxInt} {
			if uid, ok := v.At(n); uid != 0 || ok {
				t.Errorf("At(%d) = %d, %v", n, uid, ok)
			}
		}
		for _, uid := range nums(0, 1, 2, most) {
			if seq := v.Seq(uid); seq != 0 {
				t.Errorf("Seq(%d) = %d", uid, seq)
			}
			for _, kind := range []int{math.MinInt, -1, 0, 1, 2, 3, 4, math.MaxInt} {
				if l := v.Apply(event(kind, uid), event(kind, uid+1)); len(l) != 0 {
					t.Errorf("Apply(%d) = %v", kind, l)
				}
			}
		}
		if l := v.Apply(); len(l) != 0 {
			t.Errorf("Apply() = %v", l)
		}
	}
}

// What Follow returns for a negative number is not specified, but it returns.
func TestFollowOfLess(t *testing.T) {
	for _, n := range []int{math.MinInt, math.MinInt + 1, -1} {
		for kind := range 12 {
			for _, number := range nums(0, 1, most) {
				view.Follow(n, api.Response{Kind: kind, N: number})
			}
		}
	}
}

// Arguments are neither modified nor kept, and nothing beyond their lengths is read.
func TestArgumentsAreNotKept(t *testing.T) {
	full := nums(9, 3, 0, 5, 3, 7, 1)
	for n := range len(full) + 1 {
		room := slices.Clone(full)
		v, m := made(t, room[:n]...)
		if !slices.Equal(room, full) {
			t.Fatalf("of %d: the identifiers are then %d", n, room)
		}
		clear(room)
		check(t, v, m)
	}
	events := row(arrived(12), gone(3), arrived(13), arrived(14), changed(5), changed(99))
	for n := range len(events) + 1 {
		room := slices.Clone(events)
		v, m := made(t, full...)
		checkApply(t, v, m, room[:n]...)
		if !slices.Equal(room, events) {
			t.Fatalf("of %d: the events are then %v", n, room)
		}
		clear(room)
		check(t, v, m)
	}
	body := []byte("hello")
	view.Follow(3, api.Response{Kind: 4, N: 2, Body: body})
	if string(body) != "hello" {
		t.Errorf("the body is then %q", body)
	}
}

// A result shares memory neither with the view nor with another result.
func TestResultsAreNotShared(t *testing.T) {
	spoil := func(l []uint32) {
		l = l[:cap(l)]
		for i := range l {
			l[i] = 77
		}
	}
	v, m := made(t, 3, 5, 9)
	spoil(v.UIDs())
	check(t, v, m)
	a, b := v.UIDs(), v.UIDs()
	spoil(a)
	if !slices.Equal(b, nums(3, 5, 9)) {
		t.Errorf("UIDs = %d", b)
	}
	checkApply(t, v, m, gone(5), arrived(12), gone(12))
	spoil(v.UIDs())
	check(t, v, m)
	x := v.Apply(changed(3), changed(9))
	y := v.Apply(changed(3), changed(9))
	clear(x[:cap(x)])
	if !same(y, told(fetched(1, 3), fetched(2, 9))) {
		t.Errorf("Apply = %v", y)
	}
	checkApply(t, v, m, changed(3), arrived(13))
}

// Results stay as they are, whatever happens to the view later.
func TestResultsStay(t *testing.T) {
	v := view.New(3, 5, 9)
	uids := v.UIDs()
	l := v.Apply(gone(5), arrived(12), changed(3))
	for i := range uint32(9) {
		v.Apply(gone(3), arrived(20+i), changed(20+i), gone(12))
	}
	if !slices.Equal(uids, nums(3, 5, 9)) || !same(l, told(expunged(2), exists(3), fetched(1, 3))) {
		t.Errorf("%d, %v", uids, l)
	}
}

// Views that were made separately have nothing in common (P2), even if they were made of the same list.
func TestViewsAreIndependent(t *testing.T) {
	uids := nums(2, 5)
	var vs []*view.View
	var ms []*model
	for range 5 {
		v, m := made(t, uids...)
		vs, ms = append(vs, v), append(ms, m)
	}
	l := few()
	for i := range 2000 {
		k := i * 3 % len(vs)
		checkApply(t, vs[k], ms[k], l[(i*7+i/11)%len(l)], l[(i*i+i/7)%len(l)])
		for j := range vs {
			check(t, vs[j], ms[j])
		}
	}
}

// The functions may be called concurrently, each view by one goroutine.
func TestConcurrentViews(t *testing.T) {
	l := few()
	for k := range 16 {
		t.Run(strconv.Itoa(k), func(t *testing.T) {
			t.Parallel()
			v, m := made(t, 2, uint32(k))
			for i := range 1000 {
				checkApply(t, v, m, l[(i*(2*k+1)+i*i/5)%len(l)], arrived(uint32(i)))
			}
		})
	}
}

// Many messages and events take no long time; one response tells all that arrive together.
func TestManyEvents(t *testing.T) {
	const many = 100000
	v := view.New()
	var come, change, leave []api.Event
	for i := range uint32(many) {
		come = append(come, arrived(i+1))
		change = append(change, changed(many-i))
		leave = append(leave, gone(many-i))
	}
	for range 3 {
		if l := v.Apply(come...); !same(l, told(exists(many))) || v.Len() != many {
			t.Fatalf("Apply has %d responses, Len = %d", len(l), v.Len())
		}
		if l := v.Apply(append(change, leave...)...); len(l) != 2*many || l[0].N != many || l[many].N != many || l[2*many-1].N != 1 || v.Len() != 0 {
			t.Fatalf("Apply has %d responses, Len = %d", len(l), v.Len())
		}
	}
}
