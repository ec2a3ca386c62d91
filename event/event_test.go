package event_test

import (
	"math"
	"slices"
	"strconv"
	"testing"

	"cubbyhole/api"
	"cubbyhole/event"
)

// most is the greatest identifier.
const most = 4294967295

// odd are numbers that are no kinds, some of which are kinds in fewer bits.
var odd = []int{math.MinInt, -1 << 32, -3, -2, -1, 0, 4, 5, 9, 255, 257, 258, 259, 1<<16 + 2, 1 << 32, 1<<32 + 1, 1<<32 + 2, 1<<32 + 3, math.MaxInt}

// ids are identifiers, some of which are equal in fewer bits.
var ids = []uint32{0, 1, 2, 3, 257, 1<<16 + 1, 1 << 31, 1<<31 + 1, most - 1, most}

// arrived returns an event Arrived.
func arrived(uid uint32) api.Event { return api.Event{Kind: 1, UID: uid} }

// gone returns an event Gone.
func gone(uid uint32) api.Event { return api.Event{Kind: 2, UID: uid} }

// changed returns an event Changed.
func changed(uid uint32, f api.Flags) api.Event { return api.Event{Kind: 3, UID: uid, Flags: f} }

// other returns an event of any kind.
func other(kind int, uid uint32, f api.Flags) api.Event {
	return api.Event{Kind: kind, UID: uid, Flags: f}
}

// row returns events as a list.
func row(l ...api.Event) []api.Event { return l }

// without returns the events of a list that a function does not select, in order.
func without(l []api.Event, selects func(api.Event) bool) []api.Event {
	return slices.DeleteFunc(slices.Clone(l), selects)
}

// squeezed returns what squeezing is to return: it holds each event against all later ones.
func squeezed(l []api.Event) []api.Event {
	var left []api.Event
	for i, e := range l {
		replaced := slices.ContainsFunc(l[i+1:], func(o api.Event) bool { return o.Kind == 3 && o.UID == e.UID })
		if e.Kind != 3 || !replaced {
			left = append(left, e)
		}
	}
	return left
}

// model is a queue as the chapter's sentences give it.
type model struct {
	l []api.Event
}

// push does what Push is to do.
func (m *model) push(l ...api.Event) {
	m.l = append(m.l, without(l, func(e api.Event) bool { return e.Kind < 1 || e.Kind > 3 })...)
}

// flush returns what Flush is to return.
func (m *model) flush(all bool) []api.Event {
	l := m.l
	m.l = nil
	if !all {
		m.l = without(l, func(e api.Event) bool { return e.Kind != 2 })
		l = without(l, func(e api.Event) bool { return e.Kind == 2 })
	}
	return squeezed(l)
}

// clear returns what Clear is to return.
func (m *model) clear() int {
	n := len(m.l)
	m.l = nil
	return n
}

// has returns what Has is to return.
func (m *model) has(uid uint32) bool {
	return slices.ContainsFunc(m.l, func(e api.Event) bool { return e.Kind == 2 && e.UID == uid })
}

// made returns a queue with some events, and its model.
func made(l ...api.Event) (*event.Queue, *model) {
	q, m := event.New(), &model{}
	q.Push(l...)
	m.push(l...)
	return q, m
}

// check compares what a queue says of itself, twice, with what it is to say.
func check(t *testing.T, q *event.Queue, m *model) {
	t.Helper()
	for range 2 {
		if q.Len() != len(m.l) {
			t.Fatalf("of %v: Len = %d", m.l, q.Len())
		}
		for _, uid := range ids {
			if q.Has(uid) != m.has(uid) {
				t.Fatalf("of %v: Has(%d) = %v", m.l, uid, q.Has(uid))
			}
		}
	}
}

// checkFlush calls Flush, and compares what it returns with what it is to return.
func checkFlush(t *testing.T, q *event.Queue, m *model, all bool) {
	t.Helper()
	before := m.l
	if l, want := q.Flush(all), m.flush(all); !slices.Equal(l, want) {
		t.Fatalf("of %v: Flush(%v) = %v, want %v", before, all, l, want)
	}
}

// checkClear calls Clear, and compares what it returns with what it is to return.
func checkClear(t *testing.T, q *event.Queue, m *model) {
	t.Helper()
	before := m.l
	if n, want := q.Clear(), m.clear(); n != want {
		t.Fatalf("of %v: Clear = %d", before, n)
	}
}

// eachRow calls a function with each row of up to some numbers, each of them less than n.
func eachRow(size, n int, f func(row []int)) {
	f(nil)
	for i := range n {
		if size > 0 {
			eachRow(size-1, n, func(row []int) { f(append([]int{i}, row...)) })
		}
	}
}

// few are the events of the exhaustive tests: all kinds, of two messages, and two that are of no kind.
var few = []api.Event{arrived(1), arrived(2), gone(1), gone(2), changed(1, 1), changed(1, 8), changed(2, 1), other(0, 1, 1), other(4, 1, 1)}

// eachList calls a function with each list of up to some of the few events.
func eachList(size int, f func(l []api.Event)) {
	eachRow(size, len(few), func(row []int) {
		var l []api.Event
		for _, i := range row {
			l = append(l, few[i])
		}
		f(l)
	})
}

// calls are the calls that change a queue, or may.
func calls() []func(t *testing.T, q *event.Queue, m *model) {
	l := []func(t *testing.T, q *event.Queue, m *model){
		func(t *testing.T, q *event.Queue, m *model) { checkFlush(t, q, m, false) },
		func(t *testing.T, q *event.Queue, m *model) { checkFlush(t, q, m, true) },
		checkClear,
	}
	for _, events := range [][]api.Event{nil, few, {few[0]}, {few[2]}, {few[4]}, {few[7]}, {few[5], few[3], few[1]}} {
		l = append(l, func(t *testing.T, q *event.Queue, m *model) {
			q.Push(events...)
			m.push(events...)
		})
	}
	return l
}

// Each row of up to four calls that change a queue, or may, has the results that the chapter's sentences give (P15.1 to P15.3).
func TestCallsInEveryOrder(t *testing.T) {
	l := calls()
	for _, all := range []bool{false, true} {
		eachRow(4, len(l), func(row []int) {
			q, m := made()
			for _, i := range row {
				l[i](t, q, m)
				check(t, q, m)
			}
			checkFlush(t, q, m, all)
			check(t, q, m)
			checkFlush(t, q, m, true)
			check(t, q, m)
		})
	}
}

// P15.1

func TestNew(t *testing.T) {
	for range 2 {
		q := event.New()
		if q == nil {
			t.Fatal("New = nil")
		}
		check(t, q, &model{})
		for _, all := range []bool{false, true, false} {
			if l := q.Flush(all); len(l) != 0 {
				t.Errorf("Flush(%v) = %v", all, l)
			}
		}
		if n := q.Clear(); n != 0 {
			t.Errorf("Clear = %d", n)
		}
		check(t, q, &model{})
	}
}

// All fields of an event are kept as they are, be they those of a message or not.
func TestPush(t *testing.T) {
	for kind := 1; kind <= 3; kind++ {
		for _, uid := range ids {
			for f := range 256 {
				e := other(kind, uid, api.Flags(f))
				q, m := made(e)
				check(t, q, m)
				if l := q.Flush(true); !slices.Equal(l, row(e)) || q.Len() != 0 {
					t.Fatalf("of %v: Flush = %v, then Len = %d", e, l, q.Len())
				}
			}
		}
	}
}

// The order is that of the arguments and of the calls, and what is equal stays, too.
func TestPushInOrder(t *testing.T) {
	want := row(gone(3), arrived(9), gone(3), arrived(7), arrived(9), gone(1), changed(5, 2), arrived(7), gone(9))
	for a := range len(want) + 1 {
		for b := a; b <= len(want); b++ {
			q := event.New()
			q.Push(want[:a]...)
			q.Push()
			q.Push(want[a:b]...)
			q.Push(want[b:]...)
			if n, l := q.Len(), q.Flush(true); n != len(want) || !slices.Equal(l, want) {
				t.Errorf("pushed up to %d, %d and the end: Len = %d, and Flush = %v", a, b, n, l)
			}
		}
	}
}

// Events of no kind are left out, wherever they are, and the others are not.
func TestPushOtherKinds(t *testing.T) {
	for _, kind := range odd {
		for _, uid := range ids {
			q, m := made(other(kind, uid, 1))
			if q.Len() != 0 || q.Has(uid) {
				t.Errorf("of the kind %d: Len = %d, Has(%d) = %v", kind, q.Len(), uid, q.Has(uid))
			}
			check(t, q, m)
			q, m = made(other(kind, uid, 1), gone(3), other(kind, 3, 8), changed(uid, 1), other(kind, uid, 2), arrived(9), other(kind, uid, 1))
			check(t, q, m)
			if l := q.Flush(true); !slices.Equal(l, row(gone(3), changed(uid, 1), arrived(9))) {
				t.Errorf("of the kind %d: Flush = %v", kind, l)
			}
		}
	}
}

// The number is that of all events, as squeezing is for Flush alone.
func TestLen(t *testing.T) {
	q := event.New()
	for i, c := range []struct {
		e    api.Event
		want int
	}{
		{changed(5, 1), 1}, {changed(5, 1), 2}, {changed(5, 2), 3}, {gone(5), 4}, {gone(5), 5}, {other(0, 5, 0), 5}, {other(4, 5, 0), 5}, {arrived(5), 6}, {arrived(5), 7}, {arrived(0), 8}, {changed(0, 0), 9}, {gone(0), 10}, {api.Event{}, 10},
	} {
		q.Push(c.e)
		if n := q.Len(); n != c.want {
			t.Errorf("event %d: Len = %d, want %d", i, n, c.want)
		}
	}
}

// All events are counted, those of the kind Gone and those that squeezing removes among them.
func TestClear(t *testing.T) {
	eachList(4, func(l []api.Event) {
		q, m := made(l...)
		checkClear(t, q, m)
		check(t, q, m)
		checkClear(t, q, m)
		checkFlush(t, q, m, true)
		q.Push(few...)
		m.push(few...)
		check(t, q, m)
		checkFlush(t, q, m, true)
	})
	q, _ := made(changed(5, 1), gone(3), changed(5, 1), other(7, 1, 0), arrived(9), gone(3))
	for i, want := range []int{5, 0, 0} {
		if n := q.Clear(); n != want || q.Len() != 0 || q.Has(3) || len(q.Flush(true)) != 0 {
			t.Errorf("call %d: Clear = %d, then Len = %d, Has = %v", i, n, q.Len(), q.Has(3))
		}
	}
}

// Clear also removes what Flush has left.
func TestClearAfterFlush(t *testing.T) {
	q, m := made(gone(3), arrived(9), gone(4), changed(9, 1))
	checkFlush(t, q, m, false)
	if n := q.Clear(); n != 2 || q.Len() != 0 || q.Has(3) || q.Has(4) || len(q.Flush(true)) != 0 {
		t.Errorf("Clear = %d, then Len = %d", n, q.Len())
	}
}

// P15.2

func TestChapterExample(t *testing.T) {
	q, _ := made(gone(3), changed(5, api.Seen), arrived(9), changed(5, api.Draft))
	if l := q.Flush(false); !slices.Equal(l, row(arrived(9), changed(5, api.Draft))) {
		t.Errorf("Flush(false) = %v", l)
	}
	if q.Len() != 1 || !q.Has(3) {
		t.Errorf("Len = %d, Has(3) = %v", q.Len(), q.Has(3))
	}
	if l := q.Flush(true); !slices.Equal(l, row(gone(3))) || q.Len() != 0 || q.Has(3) {
		t.Errorf("Flush(true) = %v", l)
	}
}

// The first list is pushed and flushed without Gone, and then the second one with it.
func TestFlush(t *testing.T) {
	for i, c := range []struct{ first, told, second, rest []api.Event }{
		{},
		{row(gone(3)), nil, nil, row(gone(3))},
		{row(gone(3), gone(2), gone(3)), nil, nil, row(gone(3), gone(2), gone(3))},
		{row(arrived(9), arrived(9), arrived(2)), row(arrived(9), arrived(9), arrived(2)), nil, nil},
		{row(gone(3), arrived(9), gone(2), arrived(8), gone(9)), row(arrived(9), arrived(8)), nil, row(gone(3), gone(2), gone(9))},
		// What has stayed is in front of what comes later.
		{row(gone(9)), nil, row(gone(2), arrived(9)), row(gone(9), gone(2), arrived(9))},
		{row(arrived(9), gone(9)), row(arrived(9)), row(arrived(10), gone(2)), row(gone(9), arrived(10), gone(2))},
		// Nothing is returned twice, and an event that was returned does not replace, and is not replaced by, later ones.
		{row(changed(5, 1)), row(changed(5, 1)), row(changed(5, 1)), row(changed(5, 1))},
		{row(changed(5, 1)), row(changed(5, 1)), nil, nil},
		{row(changed(5, 1), gone(5)), row(changed(5, 1)), row(changed(5, 2)), row(gone(5), changed(5, 2))},
		// What is between two changes of a message does not matter, nor whether it stays.
		{row(changed(5, 1), gone(5), changed(5, 2)), row(changed(5, 2)), nil, row(gone(5))},
		{row(changed(5, 1), arrived(5), changed(5, 2)), row(arrived(5), changed(5, 2)), nil, nil},
		{row(changed(5, 1), changed(6, 1), gone(7), changed(5, 1), changed(6, 2)), row(changed(5, 1), changed(6, 2)), nil, row(gone(7))},
		{nil, nil, row(changed(5, 1), gone(5), changed(5, 2), arrived(6), changed(5, 0)), row(gone(5), arrived(6), changed(5, 0))},
		// Neither Gone nor Arrived replaces a change.
		{row(changed(5, 1), gone(5)), row(changed(5, 1)), nil, row(gone(5))},
		{row(changed(5, 1), arrived(5)), row(changed(5, 1), arrived(5)), nil, nil},
		{nil, nil, row(changed(5, 1), gone(5), gone(5)), row(changed(5, 1), gone(5), gone(5))},
		// The flags of Gone and Arrived, and the identifier 0, are nothing special.
		{row(other(2, 5, 1), other(2, 5, 2), other(1, 5, 3), changed(0, 4), changed(0, 5)), row(other(1, 5, 3), changed(0, 5)), nil, row(other(2, 5, 1), other(2, 5, 2))},
	} {
		q, _ := made(c.first...)
		if l := q.Flush(false); !slices.Equal(l, c.told) {
			t.Errorf("case %d: Flush(false) = %v, want %v", i, l, c.told)
		}
		if l := q.Flush(false); len(l) != 0 {
			t.Errorf("case %d: the second Flush(false) = %v", i, l)
		}
		q.Push(c.second...)
		if l := q.Flush(true); !slices.Equal(l, c.rest) {
			t.Errorf("case %d: Flush(true) = %v, want %v", i, l, c.rest)
		}
		for _, all := range []bool{false, true} {
			if l := q.Flush(all); len(l) != 0 || q.Len() != 0 {
				t.Errorf("case %d: at the end, Flush(%v) = %v", i, all, l)
			}
		}
	}
}

// Gone stays for as many calls as there are, in order, while the others do not.
func TestGoneStays(t *testing.T) {
	q, m := made()
	for i := range 50 {
		l := row(arrived(uint32(i)), gone(uint32(i%7)), changed(2, api.Flags(i)), gone(uint32(i%5)), changed(2, 0))
		q.Push(l...)
		m.push(l...)
		if l := q.Flush(false); !slices.Equal(l, row(arrived(uint32(i)), changed(2, 0))) || q.Len() != 2*i+2 {
			t.Fatalf("round %d: Flush(false) = %v, then Len = %d", i, l, q.Len())
		}
		m.flush(false)
		check(t, q, m)
	}
	checkFlush(t, q, m, true)
	check(t, q, m)
}

// P15.3

func TestHas(t *testing.T) {
	for i, c := range []struct {
		l    []api.Event
		want []uint32
	}{
		{nil, nil},
		{row(gone(3)), []uint32{3}},
		{row(gone(3), gone(3)), []uint32{3}},
		{row(arrived(1), gone(3), changed(2, 1), gone(most)), []uint32{3, most}},
		{row(gone(0)), []uint32{0}},
		{row(arrived(0), changed(0, 0), arrived(3), changed(3, 4)), nil},
		// The flags do not matter, nor what comes after it.
		{row(other(2, 1, 1), other(2, 2, 255)), []uint32{1, 2}},
		{row(gone(1), arrived(1), changed(1, 4)), []uint32{1}},
		{row(arrived(1), changed(1, 4), gone(1)), []uint32{1}},
		// All 32 bits of an identifier do.
		{row(gone(257)), []uint32{257}},
		{row(gone(1<<16 + 1)), []uint32{1<<16 + 1}},
		{row(gone(1<<31 + 1)), []uint32{1<<31 + 1}},
		{row(other(258, 3, 0), other(1<<32+2, 3, 0), other(-2, 3, 0), other(0, 3, 0)), nil},
	} {
		q, _ := made(c.l...)
		for range 2 { // Flush(false) changes nothing of it
			for _, uid := range ids {
				if h := q.Has(uid); h != slices.Contains(c.want, uid) {
					t.Errorf("case %d: Has(%d) = %v", i, uid, h)
				}
			}
			q.Flush(false)
		}
		q.Flush(true)
		for _, uid := range ids {
			if q.Has(uid) {
				t.Errorf("case %d: at the end, Has(%d)", i, uid)
			}
		}
	}
}

func TestSqueeze(t *testing.T) {
	for i, c := range []struct{ l, want []api.Event }{
		{nil, nil},
		{row(), nil},
		{row(changed(1, 1)), row(changed(1, 1))},
		{row(changed(1, 1), changed(1, 1)), row(changed(1, 1))},
		{row(changed(1, 1), changed(1, 2), changed(1, 4)), row(changed(1, 4))},
		{row(changed(1, 2), changed(1, 0)), row(changed(1, 0))},
		{row(changed(1, 1), changed(2, 1)), row(changed(1, 1), changed(2, 1))},
		{row(changed(1, 1), changed(2, 1), changed(1, 2)), row(changed(2, 1), changed(1, 2))},
		{row(changed(1, 1), changed(2, 1), changed(1, 2), changed(2, 2)), row(changed(1, 2), changed(2, 2))},
		{row(changed(1, 1), changed(2, 1), changed(2, 2), changed(1, 2)), row(changed(2, 2), changed(1, 2))},
		{row(changed(0, 1), changed(most, 1), changed(0, 2), changed(most, 2)), row(changed(0, 2), changed(most, 2))},
		{row(changed(1, 1), changed(257, 1), changed(1<<16+1, 1), changed(1<<31+1, 1)), row(changed(1, 1), changed(257, 1), changed(1<<16+1, 1), changed(1<<31+1, 1))},
		// Events of other kinds all stay, and replace nothing.
		{row(gone(1), gone(1), arrived(1), arrived(1)), row(gone(1), gone(1), arrived(1), arrived(1))},
		{row(changed(1, 1), gone(1), arrived(1)), row(changed(1, 1), gone(1), arrived(1))},
		{row(gone(1), changed(1, 1), arrived(1), changed(1, 2), gone(1)), row(gone(1), arrived(1), changed(1, 2), gone(1))},
		{row(other(1, 1, 5), other(2, 1, 5), other(1, 1, 5)), row(other(1, 1, 5), other(2, 1, 5), other(1, 1, 5))},
		// So do those of no kind.
		{row(api.Event{}, other(9, 1, 0), api.Event{}, other(9, 1, 0)), row(api.Event{}, other(9, 1, 0), api.Event{}, other(9, 1, 0))},
		{row(changed(1, 1), other(4, 1, 1), other(0, 1, 1)), row(changed(1, 1), other(4, 1, 1), other(0, 1, 1))},
	} {
		if l := event.Squeeze(c.l...); !slices.Equal(l, c.want) {
			t.Errorf("case %d: %v, want %v", i, l, c.want)
		}
	}
}

// Only the kind Changed is replaced, and only by it, whatever other numbers are.
func TestSqueezeOtherKinds(t *testing.T) {
	for _, kind := range append([]int{1, 2}, odd...) {
		for _, uid := range ids {
			e := other(kind, uid, 1)
			for i, l := range [][]api.Event{{e, e}, {e, changed(uid, 1)}, {changed(uid, 1), e}, {e, changed(uid, 1), e}} {
				if s := event.Squeeze(l...); !slices.Equal(s, l) {
					t.Errorf("case %d of the kind %d: %v", i, kind, s)
				}
			}
		}
	}
}

func TestSqueezeEveryList(t *testing.T) {
	eachList(5, func(l []api.Event) {
		if s := event.Squeeze(l...); !slices.Equal(s, squeezed(l)) {
			t.Fatalf("of %v: %v, want %v", l, s, squeezed(l))
		}
	})
}

func TestName(t *testing.T) {
	for kind, want := range map[int]string{1: "arrived", 2: "gone", 3: "changed"} {
		if s := event.Name(kind); s != want {
			t.Errorf("Name(%d) = %q, want %q", kind, s, want)
		}
	}
	for _, kind := range odd {
		if s := event.Name(kind); s != "" {
			t.Errorf("Name(%d) = %q", kind, s)
		}
	}
}

// P15.4

// ofMessages returns the events of a list that say that a message arrived or is gone, in order.
func ofMessages(l []api.Event) []api.Event {
	return without(l, func(e api.Event) bool { return e.Kind != 1 && e.Kind != 2 })
}

// Two calls return each event of the kinds Arrived and Gone once: first those of the one kind, then those of the other.
func TestFlushTwice(t *testing.T) {
	eachList(5, func(l []api.Event) {
		q, _ := made(l...)
		first, second := q.Flush(false), q.Flush(true)
		all := ofMessages(l)
		if got := ofMessages(first); !slices.Equal(got, without(all, func(e api.Event) bool { return e.Kind == 2 })) {
			t.Fatalf("of %v: Flush(false) = %v", l, first)
		}
		if !slices.Equal(second, without(all, func(e api.Event) bool { return e.Kind == 1 })) {
			t.Fatalf("of %v: then Flush(true) = %v", l, second)
		}
	})
}

func TestSqueezeTwice(t *testing.T) {
	eachList(5, func(l []api.Event) {
		once := event.Squeeze(l...)
		if twice := event.Squeeze(once...); !slices.Equal(twice, once) {
			t.Fatalf("of %v: %v, then %v", l, once, twice)
		}
		if !slices.Equal(ofMessages(once), ofMessages(l)) {
			t.Fatalf("of %v: %v", l, once)
		}
		q, _ := made(l...)
		for _, all := range []bool{false, true} {
			if flushed := q.Flush(all); !slices.Equal(event.Squeeze(flushed...), flushed) {
				t.Fatalf("of %v: Flush(%v) = %v", l, all, flushed)
			}
		}
	})
}

// P1, P2 and the rules

func TestNil(t *testing.T) {
	var q *event.Queue
	for range 2 {
		for _, uid := range ids {
			if q.Has(uid) {
				t.Errorf("Has(%d) = true", uid)
			}
		}
		for _, all := range []bool{false, true} {
			if l := q.Flush(all); len(l) != 0 {
				t.Errorf("Flush(%v) = %v", all, l)
			}
		}
		if q.Len() != 0 || q.Clear() != 0 {
			t.Errorf("%d, %d", q.Len(), q.Clear())
		}
		q.Push()
		q.Push(few...)
	}
}

// Many events take no longer than a few each, be all of them replaced or none of them.
func TestManyEvents(t *testing.T) {
	const n = 200000
	var same, different []api.Event
	for i := range n {
		same = append(same, changed(7, api.Flags(i)))
		different = append(different, changed(uint32(i), 1))
	}
	if l := event.Squeeze(same...); !slices.Equal(l, same[n-1:]) {
		t.Errorf("of equal identifiers: %d events", len(l))
	}
	if l := event.Squeeze(different...); !slices.Equal(l, different) {
		t.Errorf("of different identifiers: %d events", len(l))
	}
	q := event.New()
	for _, e := range different {
		q.Push(e)
	}
	q.Push(same...)
	if q.Len() != 2*n {
		t.Errorf("Len = %d", q.Len())
	}
	want := slices.Concat(different[:7], different[8:], same[n-1:])
	if l := q.Flush(false); !slices.Equal(l, want) || q.Len() != 0 {
		t.Errorf("Flush(false) has %d events, then Len = %d", len(l), q.Len())
	}
}

// A list is neither modified nor kept, and nothing beyond the length of it is read.
func TestArgumentsAreNotKept(t *testing.T) {
	full := row(changed(1, 1), gone(2), other(7, 1, 0), changed(1, 2), arrived(3), changed(1, 4))
	for n := range len(full) + 1 {
		room := slices.Clone(full)
		if l := event.Squeeze(room[:n]...); !slices.Equal(l, squeezed(full[:n])) {
			t.Errorf("of %d: Squeeze = %v", n, l)
		}
		q, m := made()
		q.Push(room[:n]...)
		m.push(full[:n]...)
		if !slices.Equal(room, full) {
			t.Fatalf("of %d: the list is then %v", n, room)
		}
		for i := range room {
			room[i] = gone(257)
		}
		check(t, q, m)
		q.Push(gone(9))
		m.push(gone(9))
		checkFlush(t, q, m, false)
		q.Push(gone(9))
		m.push(gone(9))
		checkFlush(t, q, m, true)
		if !slices.Equal(room, slices.Repeat(row(gone(257)), len(full))) {
			t.Fatalf("of %d: the list is at last %v", n, room)
		}
	}
}

// spoil changes the events of a result, and those that are behind it in memory.
func spoil(l []api.Event) {
	l = l[:cap(l)]
	for i := range l {
		l[i] = gone(257)
	}
}

// A result shares memory neither with the queue, nor with an argument, nor with another result.
func TestResultsAreNotShared(t *testing.T) {
	for _, l := range [][]api.Event{{arrived(1), arrived(2)}, {gone(1), gone(2)}, {changed(1, 1), gone(2), changed(1, 2), arrived(3), gone(3)}} {
		room := slices.Clone(l)
		spoil(event.Squeeze(room...))
		if !slices.Equal(room, l) {
			t.Errorf("the argument is then %v, not %v", room, l)
		}
		for _, all := range []bool{false, true} {
			q, m := made(l...)
			first, want := q.Flush(all), m.flush(all)
			q.Push(l...)
			m.push(l...)
			if !slices.Equal(first, want) {
				t.Errorf("of %v: after Push, the result is %v, not %v", l, first, want)
			}
			spoil(first)
			check(t, q, m)
			second, want := q.Flush(false), m.flush(false)
			spoil(first)
			if !slices.Equal(second, want) {
				t.Errorf("of %v: the second result is %v, not %v", l, second, want)
			}
			spoil(second)
			checkFlush(t, q, m, true)
		}
	}
}

// Queues that were made separately have nothing in common (P2).
func TestQueuesAreIndependent(t *testing.T) {
	var qs []*event.Queue
	var ms []*model
	for range 5 {
		q, m := made()
		qs, ms = append(qs, q), append(ms, m)
	}
	l := calls()
	for i := range 3000 {
		k := i * 3 % len(qs)
		l[(i*7+i/11)%len(l)](t, qs[k], ms[k])
		for j := range qs {
			check(t, qs[j], ms[j])
		}
	}
}

// The functions may be called concurrently, each queue by one goroutine.
func TestConcurrentQueues(t *testing.T) {
	l := calls()
	for k := range 16 {
		t.Run(strconv.Itoa(k), func(t *testing.T) {
			t.Parallel()
			q, m := made()
			for i := range 3000 {
				l[(i*(2*k+1)+i*i/5)%len(l)](t, q, m)
				check(t, q, m)
			}
		})
	}
}
