package store_test

import (
	"bytes"
	"math"
	"slices"
	"strconv"
	"testing"

	"cubbyhole/api"
	"cubbyhole/store"
)

const (
	most    = 4294967295 // the greatest identifier
	longest = 65536      // the greatest number of bytes of a body
)

// arrived returns an event Arrived.
func arrived(uid uint32) api.Event { return api.Event{Kind: 1, UID: uid} }

// gone returns an event Gone.
func gone(uid uint32) api.Event { return api.Event{Kind: 2, UID: uid} }

// changed returns an event Changed.
func changed(uid uint32, f api.Flags) api.Event { return api.Event{Kind: 3, UID: uid, Flags: f} }

// row returns events as a list.
func row(l ...api.Event) []api.Event { return l }

// nums returns numbers as a list.
func nums(l ...uint32) []uint32 { return l }

// model is a mailbox as the chapter's sentences give it.
type model struct {
	stripes, capacity int
	next, validity    uint32
	l                 []api.Message
	queues            map[int][]api.Event
}

// made returns a mailbox and its model.
func made(t *testing.T, stripes, capacity int, next uint32) (*store.Store, *model) {
	t.Helper()
	s := store.New(stripes, capacity, next)
	if s == nil {
		t.Fatalf("New(%d, %d, %d) = nil", stripes, capacity, next)
	}
	if next == 0 {
		next = 1
	}
	return s, &model{stripes, capacity, next, next, nil, map[int][]api.Event{}}
}

// uids returns what UIDs is to return.
func (m *model) uids() []uint32 {
	var l []uint32
	for _, x := range m.l {
		l = append(l, x.UID)
	}
	return l
}

// push appends an event to all queues except for one.
func (m *model) push(except int, e api.Event) {
	for id := range m.queues {
		if id != except {
			m.queues[id] = append(m.queues[id], e)
		}
	}
}

// nobody is the identifier of no subscriber.
const nobody = -1

// subscribe returns what Subscribe is to return.
func (m *model) subscribe(id int) ([]uint32, api.Code) {
	if id < 0 {
		return nil, 2
	}
	if _, ok := m.queues[id]; ok {
		return nil, 8
	}
	m.queues[id] = nil
	return m.uids(), 0
}

// unsubscribe returns what Unsubscribe is to return.
func (m *model) unsubscribe(id int) bool {
	_, ok := m.queues[id]
	delete(m.queues, id)
	return ok
}

// flush returns what Flush is to return.
func (m *model) flush(id int, all bool) []api.Event {
	var told, kept []api.Event
	for i, e := range m.queues[id] {
		later := slices.ContainsFunc(m.queues[id][i+1:], func(o api.Event) bool { return o.Kind == 3 && o.UID == e.UID })
		if e.Kind == 2 && !all {
			kept = append(kept, e)
		} else if e.Kind != 3 || !later {
			told = append(told, e)
		}
	}
	if _, ok := m.queues[id]; ok {
		m.queues[id] = kept
	}
	return told
}

// add returns what Append is to return.
func (m *model) add(f api.Flags, body []byte) (uint32, api.Code) {
	if f >= 32 || len(body) > longest {
		return 0, 2
	}
	if len(m.l) == m.capacity {
		return 0, 5
	}
	if m.next == most {
		return 0, 6
	}
	m.l = append(m.l, api.Message{UID: m.next, Flags: f, Body: []byte(string(body))})
	m.push(nobody, arrived(m.next))
	m.next++
	return m.next - 1, 0
}

// change returns what Change is to return.
func (m *model) change(by int, uid uint32, mode int, f api.Flags) (api.Flags, api.Code) {
	i := slices.IndexFunc(m.l, func(x api.Message) bool { return x.UID == uid })
	if i < 0 {
		return 0, 7
	}
	if mode < 0 || mode > 2 || f >= 32 {
		return 0, 2
	}
	before := m.l[i].Flags
	after := []api.Flags{f, before | f, before &^ f}[mode]
	m.l[i].Flags = after
	if after != before {
		m.push(by, changed(uid, after))
	}
	return after, 0
}

// expunge returns what Expunge is to return.
func (m *model) expunge() []uint32 {
	var l []uint32
	var kept []api.Message
	for _, x := range m.l {
		if x.Flags&4 != 0 {
			l = append(l, x.UID)
			m.push(nobody, gone(x.UID))
		} else {
			kept = append(kept, x)
		}
	}
	m.l = kept
	return l
}

// get returns what Get is to return.
func (m *model) get(uid uint32) (api.Message, bool) {
	for _, x := range m.l {
		if x.UID == uid {
			return x, true
		}
	}
	return api.Message{}, false
}

// same reports whether two messages are equal. An empty body may be nil.
func same(a, b api.Message) bool {
	return a.UID == b.UID && a.Flags == b.Flags && bytes.Equal(a.Body, b.Body)
}

// some are numbers of sessions, those of no session among them.
var some = []int{math.MinInt, -1, 0, 1, 2, 3, 1<<32 + 1, math.MaxInt}

// check compares everything that a mailbox says, but for its events, with what it is to say.
func check(t *testing.T, s *store.Store, m *model) {
	t.Helper()
	if l := s.UIDs(); !slices.Equal(l, m.uids()) {
		t.Fatalf("UIDs = %d, want %d", l, m.uids())
	}
	if n, v, k := s.Next(), s.Validity(), s.Stripes(); n != m.next || v != m.validity || k != m.stripes {
		t.Fatalf("Next = %d, Validity = %d, Stripes = %d, want %d, %d and %d", n, v, k, m.next, m.validity, m.stripes)
	}
	for _, uid := range append(m.uids(), 0, 1, m.validity-1, m.validity, m.next-1, m.next, m.next+1, most) {
		x, ok := s.Get(uid)
		if want, wantOK := m.get(uid); !same(x, want) || ok != wantOK {
			t.Fatalf("Get(%d) = %v, %v, want %v, %v", uid, x, ok, want, wantOK)
		}
	}
	for _, id := range some {
		if n := s.Pending(id); n != len(m.queues[id]) {
			t.Fatalf("Pending(%d) = %d, want %d", id, n, len(m.queues[id]))
		}
	}
}

// checkSubscribe calls Subscribe, and compares what it returns with what it is to return.
func checkSubscribe(t *testing.T, s *store.Store, m *model, id int) {
	t.Helper()
	l, code := s.Subscribe(id)
	if want, wantCode := m.subscribe(id); !slices.Equal(l, want) || code != wantCode {
		t.Fatalf("Subscribe(%d) = %d, %d, want %d, %d", id, l, code, want, wantCode)
	}
}

// checkUnsubscribe calls Unsubscribe, and compares what it returns with what it is to return.
func checkUnsubscribe(t *testing.T, s *store.Store, m *model, id int) {
	t.Helper()
	if ok, want := s.Unsubscribe(id), m.unsubscribe(id); ok != want {
		t.Fatalf("Unsubscribe(%d) = %v", id, ok)
	}
}

// checkFlush calls Flush, and compares what it returns with what it is to return.
func checkFlush(t *testing.T, s *store.Store, m *model, id int, all bool) {
	t.Helper()
	before := m.queues[id]
	if l, want := s.Flush(id, all), m.flush(id, all); !slices.Equal(l, want) {
		t.Fatalf("of %v: Flush(%d, %v) = %v, want %v", before, id, all, l, want)
	}
}

// checkAppend calls Append, and compares what it returns with what it is to return.
func checkAppend(t *testing.T, s *store.Store, m *model, f api.Flags, body []byte) {
	t.Helper()
	uid, code := s.Append(f, body)
	if want, wantCode := m.add(f, body); uid != want || code != wantCode {
		t.Fatalf("Append(%d, %d bytes) = %d, %d, want %d, %d", f, len(body), uid, code, want, wantCode)
	}
}

// checkChange calls Change, and compares what it returns with what it is to return.
func checkChange(t *testing.T, s *store.Store, m *model, by int, uid uint32, mode int, f api.Flags) {
	t.Helper()
	after, code := s.Change(by, uid, mode, f)
	if want, wantCode := m.change(by, uid, mode, f); after != want || code != wantCode {
		t.Fatalf("Change(%d, %d, %d, %d) = %d, %d, want %d, %d", by, uid, mode, f, after, code, want, wantCode)
	}
}

// checkExpunge calls Expunge, and compares what it returns with what it is to return.
func checkExpunge(t *testing.T, s *store.Store, m *model) {
	t.Helper()
	if l, want := s.Expunge(), m.expunge(); !slices.Equal(l, want) {
		t.Fatalf("Expunge = %d, want %d", l, want)
	}
}

// checkAll compares everything that a mailbox says, the events of all subscribers included, with what it is to say.
func checkAll(t *testing.T, s *store.Store, m *model) {
	t.Helper()
	check(t, s, m)
	for _, id := range some {
		checkFlush(t, s, m, id, false)
		checkFlush(t, s, m, id, true)
	}
	check(t, s, m)
}

// eachRow calls a function with each row of up to some numbers, each of them less than n.
func eachRow(size, n int, f func(row []int)) {
	f(nil)
	for i := range n {
		if size > 0 {
			eachRow(size-1, n, func(row []int) { f(append([]int{i}, row...)) })
		}
	}
}

// call is a call that changes a mailbox, or may.
type call = func(t *testing.T, s *store.Store, m *model)

// calls are the calls of the exhaustive tests, on the messages 7, 8 and 9.
func calls() []call {
	return []call{
		func(t *testing.T, s *store.Store, m *model) { checkSubscribe(t, s, m, 0) },
		func(t *testing.T, s *store.Store, m *model) { checkSubscribe(t, s, m, 3) },
		func(t *testing.T, s *store.Store, m *model) { checkUnsubscribe(t, s, m, 0) },
		func(t *testing.T, s *store.Store, m *model) { checkFlush(t, s, m, 0, false) },
		func(t *testing.T, s *store.Store, m *model) { checkFlush(t, s, m, 3, true) },
		func(t *testing.T, s *store.Store, m *model) { checkAppend(t, s, m, 0, []byte("a")) },
		func(t *testing.T, s *store.Store, m *model) { checkAppend(t, s, m, 5, nil) },
		func(t *testing.T, s *store.Store, m *model) { checkChange(t, s, m, 0, 7, 1, 4) },
		func(t *testing.T, s *store.Store, m *model) { checkChange(t, s, m, 3, 8, 0, 1) },
		func(t *testing.T, s *store.Store, m *model) { checkChange(t, s, m, 3, 7, 2, 5) },
		checkExpunge,
	}
}

// Each row of up to four calls has the results that the chapter's sentences give, in a mailbox that is empty and in one that is not (P16.1 to P16.6).
func TestCallsInEveryOrder(t *testing.T) {
	l := calls()
	for _, filled := range []bool{false, true} {
		eachRow(4, len(l), func(row []int) {
			s, m := made(t, 2, 3, 7)
			if filled {
				checkAppend(t, s, m, 4, []byte("b"))
				checkSubscribe(t, s, m, 0)
				checkAppend(t, s, m, 1, []byte("c"))
			}
			for _, i := range row {
				l[i](t, s, m)
				check(t, s, m)
			}
			checkAll(t, s, m)
		})
	}
}

// P16.1

func TestNew(t *testing.T) {
	for _, stripes := range []int{math.MinInt, -16, -1, 0, 1, 2, 7, 15, 16, 17, 257, 1<<32 + 1, math.MaxInt} {
		for _, capacity := range []int{math.MinInt, -4096, -1, 0, 1, 2, 4095, 4096, 4097, 1 << 32, 1<<32 + 1, math.MaxInt} {
			for _, next := range []uint32{0, 1, 2, 7, 1 << 31, most - 1, most} {
				want := stripes >= 1 && stripes <= 16 && capacity >= 0 && capacity <= 4096
				if s := store.New(stripes, capacity, next); (s != nil) != want {
					t.Errorf("New(%d, %d, %d) is nil: %v", stripes, capacity, next, s == nil)
				} else if want {
					_, m := made(t, stripes, capacity, next)
					checkAll(t, s, m)
					checkExpunge(t, s, m)
					for _, id := range some {
						checkUnsubscribe(t, s, m, id)
					}
					checkSubscribe(t, s, m, 1)
					checkAll(t, s, m)
				}
			}
		}
	}
}

// A mailbox takes as many messages as its capacity, and no more; those that are gone leave room again.
func TestCapacity(t *testing.T) {
	for _, capacity := range []int{0, 1, 2, 5, 100, 4095, 4096} {
		s, m := made(t, 16, capacity, 1)
		for i := range capacity {
			f := api.Flags(8)
			if i%3 == 1 {
				f = 4
			}
			checkAppend(t, s, m, f, nil)
		}
		for range 3 {
			checkAppend(t, s, m, 0, nil)
		}
		n := len(s.Expunge())
		m.expunge()
		for range n + 2 {
			checkAppend(t, s, m, 0, []byte("new"))
		}
		check(t, s, m)
		if l := s.UIDs(); len(l) != capacity {
			t.Errorf("capacity %d: %d messages", capacity, len(l))
		}
	}
}

// The number of stripes makes no other difference.
func TestStripesDoNotMatter(t *testing.T) {
	l := calls()
	for stripes := 1; stripes <= 16; stripes++ {
		s, m := made(t, stripes, 3, 7)
		for i := range 500 {
			l[(i*7+i*i/11)%len(l)](t, s, m)
			check(t, s, m)
		}
		checkAll(t, s, m)
	}
}

// P16.2

func TestChapterExample(t *testing.T) {
	s := store.New(1, 10, 1)
	if l, code := s.Subscribe(1); len(l) != 0 || code != 0 {
		t.Errorf("Subscribe = %d, %d", l, code)
	}
	if uid, code := s.Append(0, []byte("hello")); uid != 1 || code != 0 {
		t.Errorf("Append = %d, %d", uid, code)
	}
	if l := s.Flush(1, true); !slices.Equal(l, row(arrived(1))) {
		t.Errorf("Flush = %v", l)
	}
}

// A session is a subscriber from Subscribe to Unsubscribe, whatever its number and the other subscribers are.
func TestSubscribe(t *testing.T) {
	s, m := made(t, 3, 9, 5)
	for i := range 4 {
		checkAppend(t, s, m, api.Flags(4*(i%2)), nil)
		for _, id := range some {
			checkSubscribe(t, s, m, id)
			check(t, s, m)
			checkSubscribe(t, s, m, id)
			check(t, s, m)
		}
		checkAppend(t, s, m, 4, nil)
		checkChange(t, s, m, 3, 5, 1, 1)
		if i == 2 {
			checkExpunge(t, s, m)
		}
		for _, id := range some {
			checkUnsubscribe(t, s, m, id)
			check(t, s, m)
			checkUnsubscribe(t, s, m, id)
			checkFlush(t, s, m, id, true)
			check(t, s, m)
		}
	}
}

// The errors have their order and their results, and change nothing of a queue.
func TestSubscribeErrors(t *testing.T) {
	s, _ := made(t, 1, 9, 5)
	s.Append(0, nil)
	for i, c := range []struct {
		id   int
		l    []uint32
		code api.Code
	}{
		{0, nums(5), 0}, {0, nil, 8}, {-1, nil, 2}, {-1, nil, 2}, {math.MinInt, nil, 2}, {math.MaxInt, nums(5), 0}, {math.MaxInt, nil, 8}, {1 << 32, nums(5), 0}, {1, nums(5), 0}, {1, nil, 8}, {0, nil, 8},
	} {
		if l, code := s.Subscribe(c.id); !slices.Equal(l, c.l) || code != c.code {
			t.Errorf("case %d: Subscribe(%d) = %d, %d", i, c.id, l, code)
		}
	}
	s.Append(0, nil)
	if l, code := s.Subscribe(0); len(l) != 0 || code != 8 || s.Pending(0) != 1 {
		t.Errorf("Subscribe = %d, %d, then Pending = %d", l, code, s.Pending(0))
	}
	if l := s.Flush(0, true); !slices.Equal(l, row(arrived(6))) {
		t.Errorf("Flush = %v", l)
	}
}

// A queue begins empty again after Unsubscribe and Subscribe, and the list is that of the messages then.
func TestSubscribeAgain(t *testing.T) {
	s, _ := made(t, 2, 9, 5)
	s.Subscribe(1)
	s.Append(4, nil)
	s.Append(0, nil)
	s.Expunge()
	if !s.Unsubscribe(1) || s.Pending(1) != 0 || len(s.Flush(1, true)) != 0 || s.Unsubscribe(1) {
		t.Error("the session has a queue after Unsubscribe")
	}
	s.Append(0, nil)
	if l, code := s.Subscribe(1); !slices.Equal(l, nums(6, 7)) || code != 0 || s.Pending(1) != 0 || len(s.Flush(1, true)) != 0 {
		t.Errorf("Subscribe = %d, %d, then Pending = %d", l, code, s.Pending(1))
	}
}

// There is no greatest number of subscribers, and each of them has a queue of its own.
func TestManySubscribers(t *testing.T) {
	s, m := made(t, 2, 9, 5)
	for id := range 200 {
		checkSubscribe(t, s, m, id*3)
		if id%50 == 0 {
			checkAppend(t, s, m, 4, nil)
		}
	}
	checkChange(t, s, m, 300, 6, 1, 1)
	checkFlush(t, s, m, 9, true)
	checkExpunge(t, s, m)
	for id := range 600 {
		if n := s.Pending(id); n != len(m.queues[id]) {
			t.Errorf("Pending(%d) = %d", id, n)
		}
		checkFlush(t, s, m, id, false)
		checkFlush(t, s, m, id, true)
	}
}

// Flush does what the queue of chapter 15 does, and Pending counts what waits, be it squeezed later or not.
func TestFlush(t *testing.T) {
	s, _ := made(t, 2, 9, 5)
	for range 3 {
		s.Append(0, nil)
	}
	s.Subscribe(1)
	s.Change(2, 6, 1, 1)
	s.Change(2, 5, 1, 4)
	s.Change(2, 6, 1, 8)
	s.Expunge()
	s.Change(2, 6, 0, 2)
	s.Append(0, nil)
	for i, c := range []struct {
		all     bool
		pending int
		want    []api.Event
	}{
		{false, 6, row(changed(5, 4), changed(6, 2), arrived(8))}, {false, 1, nil}, {true, 1, row(gone(5))}, {true, 0, nil}, {false, 0, nil},
	} {
		if n, l := s.Pending(1), s.Flush(1, c.all); n != c.pending || !slices.Equal(l, c.want) {
			t.Errorf("case %d: Pending = %d, Flush(%v) = %v", i, n, c.all, l)
		}
	}
}

// Others than subscribers have no events, whether there are subscribers or not.
func TestFlushOfOthers(t *testing.T) {
	s, _ := made(t, 2, 9, 5)
	for range 2 {
		s.Append(4, nil)
		for _, id := range some {
			if id != 1 && (s.Pending(id) != 0 || len(s.Flush(id, true)) != 0 || len(s.Flush(id, false)) != 0 || s.Unsubscribe(id)) {
				t.Errorf("the session %d is a subscriber", id)
			}
		}
		s.Subscribe(1)
	}
	if l := s.Flush(1, true); !slices.Equal(l, row(arrived(6))) {
		t.Errorf("Flush = %v", l)
	}
}

// P16.3

// All fields of a message are kept, for all flags there are and for bodies of all bytes and sizes.
func TestAppend(t *testing.T) {
	var every []byte
	for b := range 256 {
		every = append(every, byte(b))
	}
	for _, body := range [][]byte{nil, {}, {0}, []byte("hello"), every, make([]byte, longest-1), bytes.Repeat([]byte("x"), longest), make([]byte, longest+1), make([]byte, 2*longest)} {
		s, m := made(t, 4, 40, 100)
		checkSubscribe(t, s, m, 1)
		for f := range 256 {
			checkAppend(t, s, m, api.Flags(f), body)
		}
		checkSubscribe(t, s, m, 2)
		checkAll(t, s, m)
	}
}

// Each subscriber is told of a message, the one that appends it, too; its flags are not among the event's.
func TestAppendIsTold(t *testing.T) {
	s, _ := made(t, 4, 9, 8)
	s.Append(31, nil)
	s.Subscribe(1)
	s.Append(31, []byte("a"))
	s.Subscribe(0)
	s.Append(4, []byte("b"))
	s.Unsubscribe(0)
	s.Subscribe(2)
	s.Append(0, nil)
	for i, want := range [][]api.Event{nil, row(arrived(9), arrived(10), arrived(11)), row(arrived(11))} {
		if l := s.Flush(i, false); !slices.Equal(l, want) {
			t.Errorf("Flush(%d) = %v, want %v", i, l, want)
		}
	}
}

// The first error is returned; no error takes an identifier or is told.
func TestAppendErrors(t *testing.T) {
	long := make([]byte, longest+1)
	for i, c := range []struct {
		capacity int
		next     uint32
		f        api.Flags
		body     []byte
		uid      uint32
		code     api.Code
	}{
		{1, 5, 31, long[:longest], 5, 0},
		{1, 5, 32, nil, 0, 2},
		{1, 5, 255, nil, 0, 2},
		{1, 5, 36, nil, 0, 2},
		{1, 5, 128, nil, 0, 2},
		{1, 5, 0, long, 0, 2},
		{1, 5, 64, long, 0, 2},
		{0, 5, 0, nil, 0, 5},
		{0, 5, 32, nil, 0, 2},
		{0, 5, 0, long, 0, 2},
		{0, most, 0, nil, 0, 5},
		{0, most, 32, nil, 0, 2},
		{1, most, 0, nil, 0, 6},
		{1, most, 32, nil, 0, 2},
		{1, most, 0, long, 0, 2},
		{1, most - 1, 0, nil, most - 1, 0},
		{1, 0, 0, nil, 1, 0},
		{1, 1, 0, nil, 1, 0},
		{1, 1 << 31, 0, nil, 1 << 31, 0},
	} {
		s, m := made(t, 3, c.capacity, c.next)
		checkSubscribe(t, s, m, 1)
		if uid, code := s.Append(c.f, c.body); uid != c.uid || code != c.code {
			t.Errorf("case %d: Append = %d, %d", i, uid, code)
		}
		m.add(c.f, c.body)
		checkAll(t, s, m)
	}
}

// Identifiers are not given out twice, be their messages gone or not, and end before the greatest one.
func TestIdentifiersEnd(t *testing.T) {
	s, m := made(t, 16, 9, most-5)
	checkSubscribe(t, s, m, 1)
	for i := range 9 {
		checkAppend(t, s, m, api.Flags(i%2*4), nil)
		checkExpunge(t, s, m)
		check(t, s, m)
	}
	checkAll(t, s, m)
	if l := s.UIDs(); !slices.Equal(l, nums(most-5, most-3, most-1)) || s.Next() != most || s.Validity() != most-5 {
		t.Errorf("UIDs = %d, Next = %d, Validity = %d", l, s.Next(), s.Validity())
	}
}

// P16.4

// All flags are changed by all others in all modes, and told only where they are different afterwards.
func TestChange(t *testing.T) {
	for before := range 32 {
		s, m := made(t, 3, 3, 5)
		checkSubscribe(t, s, m, 0)
		checkAppend(t, s, m, 31, []byte("a"))
		checkAppend(t, s, m, api.Flags(before), []byte("b"))
		for _, id := range []int{1, 2} {
			checkSubscribe(t, s, m, id)
		}
		for mode := range 3 {
			for f := range 32 {
				checkChange(t, s, m, 1, 6, mode, api.Flags(f))
				checkFlush(t, s, m, 2, true)
				checkFlush(t, s, m, 1, true)
				checkChange(t, s, m, 2, 6, mode, api.Flags(f))
				checkChange(t, s, m, 2, 6, 0, api.Flags(before))
				checkFlush(t, s, m, 2, true)
				checkFlush(t, s, m, 1, true)
			}
		}
		checkAll(t, s, m)
	}
}

// The session that changes flags is not told, whether it is a subscriber or not; all subscribers else are.
func TestChangeIsTold(t *testing.T) {
	for _, by := range append(some, 4, 5, 255) {
		s, _ := made(t, 3, 3, 5)
		s.Append(1, nil)
		for id := range 4 {
			s.Subscribe(id)
		}
		if f, code := s.Change(by, 5, api.Add, api.Seen); f != 9 || code != 0 {
			t.Errorf("Change = %d, %d", f, code)
		}
		for id := range 4 {
			var want []api.Event
			if id != by {
				want = row(changed(5, 9))
			}
			if n, l := s.Pending(id), s.Flush(id, true); n != len(want) || !slices.Equal(l, want) {
				t.Errorf("by %d: of %d, Pending = %d, Flush = %v", by, id, n, l)
			}
		}
	}
}

// The errors have their order, and change and tell nothing; neither does a change that leaves the flags as they are.
func TestChangeErrors(t *testing.T) {
	for i, c := range []struct {
		uid   uint32
		mode  int
		f     api.Flags
		after api.Flags
		code  api.Code
	}{
		{6, 0, 1, 0, 7}, {0, 0, 1, 0, 7}, {4, 0, 1, 0, 7}, {most, 1, 1, 0, 7}, {5 + 256, 1, 1, 0, 7},
		{6, 3, 1, 0, 7}, {6, 0, 32, 0, 7}, {6, -1, 255, 0, 7},
		{5, 3, 1, 0, 2}, {5, -1, 1, 0, 2}, {5, math.MinInt, 1, 0, 2}, {5, math.MaxInt, 1, 0, 2}, {5, 1 << 32, 1, 0, 2}, {5, 256, 1, 0, 2},
		{5, 0, 32, 0, 2}, {5, 1, 33, 0, 2}, {5, 2, 255, 0, 2}, {5, 2, 128, 0, 2}, {5, 7, 64, 0, 2},
		{5, 0, 10, 10, 0}, {5, 1, 0, 10, 0}, {5, 1, 2, 10, 0}, {5, 1, 10, 10, 0}, {5, 2, 0, 10, 0}, {5, 2, 21, 10, 0},
	} {
		s, m := made(t, 3, 3, 5)
		checkAppend(t, s, m, 10, nil)
		checkSubscribe(t, s, m, 1)
		checkSubscribe(t, s, m, 2)
		if after, code := s.Change(1, c.uid, c.mode, c.f); after != c.after || code != c.code {
			t.Errorf("case %d: Change = %d, %d", i, after, code)
		}
		check(t, s, m)
		if len(s.Flush(1, true)) != 0 || len(s.Flush(2, true)) != 0 {
			t.Errorf("case %d: told", i)
		}
	}
}

// A message that is gone is unknown.
func TestChangeOfGone(t *testing.T) {
	s, m := made(t, 3, 3, 5)
	checkAppend(t, s, m, 4, nil)
	checkExpunge(t, s, m)
	checkSubscribe(t, s, m, 1)
	checkChange(t, s, m, 2, 5, 1, 1)
	checkAll(t, s, m)
}

// P16.5

// Each subset of five messages is expunged, once, and told in order to all subscribers.
func TestExpunge(t *testing.T) {
	for set := range 32 {
		for _, other := range []api.Flags{0, 1, 27} {
			s, m := made(t, 4, 5, 14)
			checkSubscribe(t, s, m, 1)
			for i := range 5 {
				f := other
				if set>>i&1 == 1 {
					f |= 4
				}
				checkAppend(t, s, m, f, []byte{byte(i)})
			}
			checkSubscribe(t, s, m, 2)
			for range 2 {
				checkExpunge(t, s, m)
				check(t, s, m)
			}
			checkAll(t, s, m)
		}
	}
}

// The order is ascending, whatever the stripes and the order of the changes are.
func TestExpungeInOrder(t *testing.T) {
	s, _ := made(t, 3, 9, 7)
	for range 9 {
		s.Append(8, nil)
	}
	s.Subscribe(1)
	s.Subscribe(2)
	for _, uid := range nums(14, 9, 11, 7, 15, 10) {
		s.Change(2, uid, api.Add, api.Deleted)
	}
	s.Change(2, 11, api.Remove, api.Deleted)
	if l := s.Expunge(); !slices.Equal(l, nums(7, 9, 10, 14, 15)) {
		t.Errorf("Expunge = %d", l)
	}
	goneOnes := row(gone(7), gone(9), gone(10), gone(14), gone(15))
	if l := s.Flush(2, true); !slices.Equal(l, goneOnes) {
		t.Errorf("Flush(2) = %v", l)
	}
	if l := s.Flush(1, false); len(l) != 6 || s.Pending(1) != 5 {
		t.Errorf("Flush(1, false) = %v, then Pending = %d", l, s.Pending(1))
	}
	if l := s.Flush(1, true); !slices.Equal(l, goneOnes) {
		t.Errorf("Flush(1, true) = %v", l)
	}
	if l := s.UIDs(); !slices.Equal(l, nums(8, 11, 12, 13)) {
		t.Errorf("UIDs = %d", l)
	}
	if l := s.Expunge(); len(l) != 0 || s.Pending(1) != 0 {
		t.Errorf("then Expunge = %d", l)
	}
}

// P16.6

func TestGet(t *testing.T) {
	s, m := made(t, 5, 9, 250)
	for i := range 9 {
		checkAppend(t, s, m, api.Flags(i*3), []byte(strconv.Itoa(i)))
	}
	for uid := range uint32(1000) {
		x, ok := s.Get(uid)
		if want, wantOK := m.get(uid); !same(x, want) || ok != wantOK {
			t.Errorf("Get(%d) = %v, %v", uid, x, ok)
		}
	}
	for _, uid := range nums(most, 250+1<<16, 250+1<<31) {
		if x, ok := s.Get(uid); ok || !same(x, api.Message{}) {
			t.Errorf("Get(%d) = %v, %v", uid, x, ok)
		}
	}
}

// Validity is what it was at first, whenever it is called; Next is what Append returns next.
func TestNextAndValidity(t *testing.T) {
	for _, next := range nums(0, 1, 7, 1<<31, most-2) {
		for asked := range 3 {
			s, m := made(t, 1, 9, next)
			for i := range 3 {
				if i >= asked && s.Validity() != max(next, 1) {
					t.Errorf("of %d: Validity = %d", next, s.Validity())
				}
				want := s.Next()
				if uid, code := s.Append(0, nil); code == 0 && uid != want {
					t.Errorf("of %d: Next = %d, then Append = %d", next, want, uid)
				}
				m.add(0, nil)
			}
			check(t, s, m)
		}
	}
}

// P16.7

// follow returns the list of a subscriber after some events.
func follow(t *testing.T, l []uint32, events []api.Event) []uint32 {
	t.Helper()
	for _, e := range events {
		if e.Kind == 1 {
			l = append(l, e.UID)
		}
		if e.Kind == 2 {
			i := slices.Index(l, e.UID)
			if i < 0 {
				t.Fatalf("gone, but not there: %d", e.UID)
			}
			l = slices.Delete(l, i, i+1)
		}
	}
	return l
}

// Subscribers that come at different times, and are told everything at different times, have the list of the mailbox.
func TestSubscribersKnowTheList(t *testing.T) {
	acts := []func(s *store.Store, i int){
		func(s *store.Store, i int) { s.Append(0, []byte{byte(i)}) },
		func(s *store.Store, i int) { s.Append(4, nil) },
		func(s *store.Store, i int) { s.Expunge() },
		func(s *store.Store, i int) { s.Change(i%4, uint32(10+i%20), i%3, api.Flags(i%32)) },
		func(s *store.Store, i int) { s.Change(nobody, uint32(10+i%9), 1, 4) },
	}
	lists := map[int][]uint32{}
	s := store.New(3, 12, 10)
	for i := range 4000 {
		acts[(i*13+i*i/7)%len(acts)](s, i)
		id := i / 3 % 5
		l, ok := lists[id]
		if !ok {
			lists[id], _ = s.Subscribe(id)
		} else if i%4 == 0 {
			lists[id] = follow(t, l, s.Flush(id, true))
			if !slices.Equal(lists[id], s.UIDs()) {
				t.Fatalf("after %d: the list of %d is %d, not %d", i, id, lists[id], s.UIDs())
			}
		} else if i%37 == 0 && s.Unsubscribe(id) {
			delete(lists, id)
		}
	}
	for id, l := range lists {
		if l = follow(t, l, s.Flush(id, true)); !slices.Equal(l, s.UIDs()) {
			t.Errorf("at the end, the list of %d is %d, not %d", id, l, s.UIDs())
		}
	}
}

// After each row of up to five calls, the lists of all subscribers are those of the mailbox.
func TestListsInEveryOrder(t *testing.T) {
	acts := []func(s *store.Store){
		func(s *store.Store) { s.Append(0, nil) },
		func(s *store.Store) { s.Append(4, nil) },
		func(s *store.Store) { s.Expunge() },
		func(s *store.Store) { s.Change(1, 7, 1, 4) },
		func(s *store.Store) { s.Change(1, 8, 1, 4) },
	}
	eachRow(5, len(acts), func(row []int) {
		s := store.New(2, 4, 7)
		lists := map[int][]uint32{}
		for id, i := range row {
			lists[id], _ = s.Subscribe(id)
			acts[i](s)
		}
		for id, l := range lists {
			if l = follow(t, l, s.Flush(id, true)); !slices.Equal(l, s.UIDs()) {
				t.Fatalf("of %d: the list of %d is %d, not %d", row, id, l, s.UIDs())
			}
		}
	})
}

// P1, P2 and the rules

func TestNil(t *testing.T) {
	var s *store.Store
	for range 2 {
		for _, id := range some {
			if l, code := s.Subscribe(id); len(l) != 0 || code != 1 {
				t.Errorf("Subscribe(%d) = %d, %d", id, l, code)
			}
			if s.Unsubscribe(id) || len(s.Flush(id, true)) != 0 || len(s.Flush(id, false)) != 0 || s.Pending(id) != 0 {
				t.Errorf("%d is a subscriber", id)
			}
			for _, uid := range nums(0, 1, most) {
				for _, mode := range []int{math.MinInt, -1, 0, 1, 2, 3} {
					if f, code := s.Change(id, uid, mode, 1); f != 0 || code != 1 {
						t.Errorf("Change(%d, %d, %d, 1) = %d, %d", id, uid, mode, f, code)
					}
				}
			}
		}
		for _, body := range [][]byte{nil, []byte("a"), make([]byte, longest+1)} {
			for f := range 256 {
				if uid, code := s.Append(api.Flags(f), body); uid != 0 || code != 1 {
					t.Errorf("Append(%d) = %d, %d", f, uid, code)
				}
			}
		}
		for _, uid := range nums(0, 1, most) {
			if x, ok := s.Get(uid); ok || !same(x, api.Message{}) {
				t.Errorf("Get(%d) = %v, %v", uid, x, ok)
			}
		}
		if len(s.Expunge()) != 0 || len(s.UIDs()) != 0 || s.Next() != 0 || s.Validity() != 0 || s.Stripes() != 0 {
			t.Error("not zero values")
		}
	}
}

// A body is neither modified nor kept, and nothing beyond the length of it is read.
func TestArgumentsAreNotKept(t *testing.T) {
	const full = "hello, world"
	for n := range len(full) + 1 {
		room := []byte(full)
		s, m := made(t, 2, 3, 1)
		checkAppend(t, s, m, 0, room[:n])
		if string(room) != full {
			t.Fatalf("of %d: the body is then %q", n, room)
		}
		clear(room)
		check(t, s, m)
		if x, _ := s.Get(1); string(x.Body) != full[:n] {
			t.Errorf("of %d: Get has %q", n, x.Body)
		}
	}
}

// A result shares memory neither with the mailbox nor with another result.
func TestResultsAreNotShared(t *testing.T) {
	spoil := func(l []uint32) {
		l = l[:cap(l)]
		for i := range l {
			l[i] = 77
		}
	}
	s, m := made(t, 2, 9, 5)
	for i := range 6 {
		checkAppend(t, s, m, api.Flags(i%2*4), []byte("hello"))
	}
	first, _ := s.Subscribe(1)
	m.subscribe(1)
	spoil(first)
	spoil(s.UIDs())
	check(t, s, m)
	a, b := s.UIDs(), s.UIDs()
	spoil(a)
	if !slices.Equal(b, m.uids()) {
		t.Errorf("UIDs = %d", b)
	}
	x, _ := s.Get(5)
	y, _ := s.Get(5)
	clear(x.Body[:cap(x.Body)])
	if string(y.Body) != "hello" {
		t.Errorf("Get has %q", y.Body)
	}
	check(t, s, m)
	checkSubscribe(t, s, m, 2)
	spoil(s.Expunge())
	m.expunge()
	checkAppend(t, s, m, 0, nil)
	check(t, s, m)
	events := s.Flush(1, true)
	events = events[:cap(events)]
	for i := range events {
		events[i] = gone(77)
	}
	m.flush(1, true)
	checkAll(t, s, m)
}

// Results stay as they are, whatever the mailbox does later.
func TestResultsStay(t *testing.T) {
	s, _ := made(t, 2, 9, 5)
	for range 3 {
		s.Append(4, []byte("hello"))
	}
	l, _ := s.Subscribe(1)
	uids := s.UIDs()
	x, _ := s.Get(5)
	s.Append(4, nil)
	events := s.Flush(1, true)
	expunged := s.Expunge()
	for range 9 {
		s.Append(4, []byte("other"))
		s.Expunge()
	}
	if want := nums(5, 6, 7); !slices.Equal(l, want) || !slices.Equal(uids, want) || string(x.Body) != "hello" || !slices.Equal(expunged, nums(5, 6, 7, 8)) || !slices.Equal(events, row(arrived(8))) {
		t.Errorf("%d, %d, %q, %d, %v", l, uids, x.Body, expunged, events)
	}
}

// Mailboxes that were made separately have nothing in common (P2).
func TestMailboxesAreIndependent(t *testing.T) {
	var ss []*store.Store
	var ms []*model
	for range 5 {
		s, m := made(t, 2, 3, 7)
		ss, ms = append(ss, s), append(ms, m)
	}
	l := calls()
	for i := range 2000 {
		k := i * 3 % len(ss)
		l[(i*7+i/11)%len(l)](t, ss[k], ms[k])
		for j := range ss {
			check(t, ss[j], ms[j])
		}
	}
	for j := range ss {
		checkAll(t, ss[j], ms[j])
	}
}

// The functions may be called concurrently, each mailbox by one goroutine.
func TestConcurrentMailboxes(t *testing.T) {
	l := calls()
	for k := range 16 {
		t.Run(strconv.Itoa(k), func(t *testing.T) {
			t.Parallel()
			s, m := made(t, 1+k, 3, 7)
			for i := range 1000 {
				l[(i*(2*k+1)+i*i/5)%len(l)](t, s, m)
				check(t, s, m)
			}
		})
	}
}

// As many messages as there may be, with sixteen subscribers, take no long time.
func TestManyMessages(t *testing.T) {
	s := store.New(16, 4096, 1)
	for id := range 16 {
		s.Subscribe(id)
	}
	for round := range 5 {
		for range 4096 {
			if _, code := s.Append(0, []byte("hello")); code != 0 {
				t.Fatalf("Append = %d", code)
			}
		}
		for _, uid := range s.UIDs() {
			if f, code := s.Change(3, uid, api.Add, api.Deleted); f != 4 || code != 0 {
				t.Fatalf("Change(%d) = %d, %d", uid, f, code)
			}
		}
		if l := s.Expunge(); len(l) != 4096 || l[0] != uint32(round*4096+1) || len(s.UIDs()) != 0 {
			t.Fatalf("Expunge has %d identifiers", len(l))
		}
	}
	for id := range 16 {
		want := 5 * 4096 * 3
		if id == 3 {
			want = 5 * 4096 * 2
		}
		if n, l := s.Pending(id), s.Flush(id, true); n != want || len(l) != want {
			t.Errorf("of %d: Pending = %d, and %d events", id, n, len(l))
		}
	}
}
