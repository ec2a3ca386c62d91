package uid_test

import (
	"slices"
	"sync"
	"testing"

	"cubbyhole/api"
	"cubbyhole/uid"
)

// most is the greatest number that a next identifier can be.
const most = 4294967295

// starts are arguments of New: small, great, and in between.
var starts = []uint32{0, 1, 2, 3, 7, 255, 256, 65535, 65536, 1<<31 - 1, 1 << 31, 1<<31 + 1, most - 4, most - 3, most - 2, most - 1, most}

// model is a counter as the chapter's sentences give it. Its numbers are of a type in which none of them wraps around.
type model struct {
	first, next, taken int64
}

// newModel returns what New is to return.
func newModel(next uint32) *model {
	n := int64(next)
	if n == 0 {
		n = 1
	}
	return &model{first: n, next: n}
}

// take returns what Take is to return.
func (m *model) take() (uint32, api.Code) {
	if m.next == most {
		return 0, 6
	}
	m.next++
	m.taken++
	return uint32(m.next - 1), 0
}

// skip returns what Skip is to return.
func (m *model) skip(to uint32) bool {
	if int64(to) > m.next {
		m.next = int64(to)
		return true
	}
	return false
}

// checkNumbers compares what a counter has with what it is to have, but for the validity, as asking for it may matter.
func checkNumbers(t *testing.T, c *uid.Counter, m *model) {
	t.Helper()
	for range 2 {
		if n := c.Next(); int64(n) != m.next {
			t.Fatalf("Next = %d, want %d", n, m.next)
		}
		if n := c.Left(); int64(n) != most-m.next {
			t.Fatalf("Left = %d, want %d", n, most-m.next)
		}
		if n := c.Taken(); n != uint64(m.taken) {
			t.Fatalf("Taken = %d, want %d", n, m.taken)
		}
	}
}

// checkValidity compares the validity of a counter with what it is to be.
func checkValidity(t *testing.T, c *uid.Counter, m *model) {
	t.Helper()
	for range 2 {
		if n := c.Validity(); int64(n) != m.first {
			t.Fatalf("Validity = %d, want %d", n, m.first)
		}
	}
}

// checkTake calls Take, and compares what it returns and leaves with what it is to return and to leave.
func checkTake(t *testing.T, c *uid.Counter, m *model) {
	t.Helper()
	n, e := c.Take()
	if wantN, wantE := m.take(); n != wantN || e != wantE {
		t.Fatalf("Take = %d, %d, want %d, %d", n, e, wantN, wantE)
	}
	checkNumbers(t, c, m)
}

// checkSkip calls Skip, and compares what it returns and leaves with what it is to return and to leave.
func checkSkip(t *testing.T, c *uid.Counter, m *model, to uint32) {
	t.Helper()
	ok := c.Skip(to)
	if want := m.skip(to); ok != want {
		t.Fatalf("Skip(%d) = %v, want %v", to, ok, want)
	}
	checkNumbers(t, c, m)
}

// calls are the calls that change a counter, or may, with arguments around its next identifier (which wrap around where it is at the end of the range) and at the ends of the range.
var calls = []func(t *testing.T, c *uid.Counter, m *model){
	checkTake,
	checkValidity,
	func(t *testing.T, c *uid.Counter, m *model) { checkSkip(t, c, m, 0) },
	func(t *testing.T, c *uid.Counter, m *model) { checkSkip(t, c, m, uint32(m.next-1)) },
	func(t *testing.T, c *uid.Counter, m *model) { checkSkip(t, c, m, uint32(m.next)) },
	func(t *testing.T, c *uid.Counter, m *model) { checkSkip(t, c, m, uint32(m.next+1)) },
	func(t *testing.T, c *uid.Counter, m *model) { checkSkip(t, c, m, uint32(m.next+1000)) },
	func(t *testing.T, c *uid.Counter, m *model) { checkSkip(t, c, m, most-1) },
	func(t *testing.T, c *uid.Counter, m *model) { checkSkip(t, c, m, most) },
}

// Each row of up to four calls has the results that the chapter's sentences give, for each counter (P11.1 to P11.4).
func TestCallsInEveryOrder(t *testing.T) {
	rows := 1
	for size := range 5 {
		for row := range rows {
			for _, start := range starts {
				c, m := uid.New(start), newModel(start)
				checkNumbers(t, c, m)
				for rest, i := row, 0; i < size; i++ {
					calls[rest%len(calls)](t, c, m)
					rest /= len(calls)
				}
				checkValidity(t, c, m)
				checkNumbers(t, c, m)
			}
		}
		rows *= len(calls)
	}
}

// P11.1

func TestNew(t *testing.T) {
	for _, c := range []struct{ start, next uint32 }{
		{0, 1}, {1, 1}, {2, 2}, {3, 3}, {100, 100}, {2147483647, 2147483647}, {2147483648, 2147483648}, {4294967294, 4294967294}, {4294967295, 4294967295},
	} {
		u := uid.New(c.start)
		if u == nil {
			t.Fatalf("New(%d) = nil", c.start)
		}
		for range 3 {
			if n := u.Next(); n != c.next {
				t.Errorf("Next of New(%d) = %d, want %d", c.start, n, c.next)
			}
		}
		if n := u.Taken(); n != 0 {
			t.Errorf("Taken of New(%d) = %d", c.start, n)
		}
	}
}

// P11.2

func TestTake(t *testing.T) {
	c := uid.New(41)
	for i := range uint32(1000) {
		if n, e := c.Take(); n != 41+i || e != api.OK {
			t.Fatalf("call %d: Take = %d, %d", i, n, e)
		}
		if n := c.Next(); n != 42+i {
			t.Fatalf("after call %d: Next = %d", i, n)
		}
	}
}

// The greatest number is never taken, however often it is tried.
func TestTakeAtTheEnd(t *testing.T) {
	for left := range uint32(20) {
		c := uid.New(most - left)
		for i := range left {
			if n, e := c.Take(); n != most-left+i || e != api.OK {
				t.Fatalf("%d left, call %d: Take = %d, %d", left, i, n, e)
			}
		}
		for range 5 {
			if n, e := c.Take(); n != 0 || e != api.ErrUID {
				t.Fatalf("none left of %d: Take = %d, %d", left, n, e)
			}
			if c.Next() != most || c.Left() != 0 || c.Taken() != uint64(left) || c.Validity() != most-left {
				t.Fatalf("none left of %d: %d, %d, %d, %d", left, c.Next(), c.Left(), c.Taken(), c.Validity())
			}
		}
	}
}

func TestChapterExample(t *testing.T) {
	c := uid.New(1<<32 - 2)
	if n, e := c.Take(); n != 1<<32-2 || e != api.OK {
		t.Errorf("Take = %d, %d", n, e)
	}
	if n, e := c.Take(); n != 0 || e != api.ErrUID {
		t.Errorf("then Take = %d, %d", n, e)
	}
}

// P11.3

func TestSkip(t *testing.T) {
	for _, c := range []struct {
		start, to, next uint32
		ok              bool
	}{
		{0, 0, 1, false}, {0, 1, 1, false}, {0, 2, 2, true},
		{1, 0, 1, false}, {1, 1, 1, false}, {1, 2, 2, true}, {1, most, most, true},
		{10, 0, 10, false}, {10, 9, 10, false}, {10, 10, 10, false}, {10, 11, 11, true}, {10, 500, 500, true},
		// Whether a number is greater does not depend on its highest bit.
		{2147483647, 2147483648, 2147483648, true}, {2147483648, 2147483647, 2147483648, false}, {1, 2147483649, 2147483649, true}, {2147483649, 1, 2147483649, false}, {1, 4294967294, 4294967294, true},
		{most - 1, most - 2, most - 1, false}, {most - 1, most - 1, most - 1, false}, {most - 1, most, most, true},
		{most, 0, most, false}, {most, 1, most, false}, {most, most - 1, most, false}, {most, most, most, false},
	} {
		u := uid.New(c.start)
		if ok := u.Skip(c.to); ok != c.ok || u.Next() != c.next {
			t.Errorf("New(%d): Skip(%d) = %v, and Next = %d", c.start, c.to, ok, u.Next())
		}
		if u.Taken() != 0 {
			t.Errorf("New(%d): Skip(%d) takes %d identifiers", c.start, c.to, u.Taken())
		}
		if ok := u.Skip(c.to); ok || u.Next() != c.next {
			t.Errorf("New(%d): the second Skip(%d) = %v, and Next = %d", c.start, c.to, ok, u.Next())
		}
	}
}

// What has been taken is not given out again, whatever is skipped to, and the number skipped to is given out next.
func TestTakeAfterSkip(t *testing.T) {
	c := uid.New(5)
	var got []uint32
	for _, to := range []uint32{3, 5, 7, 7, 8, 9, 1, 100, 99, 0, 4294967293, 4294967294, 6, most, most - 1} {
		c.Skip(to)
		if n, e := c.Take(); e == api.OK {
			got = append(got, n)
		}
	}
	if want := []uint32{5, 6, 7, 8, 9, 10, 11, 100, 101, 102, 4294967293, 4294967294}; !slices.Equal(got, want) {
		t.Errorf("taken: %d, want %d", got, want)
	}
}

// P11.4

func TestLeft(t *testing.T) {
	for next, left := range map[uint32]uint32{0: 4294967294, 1: 4294967294, 2: 4294967293, 2147483647: 2147483648, 2147483648: 2147483647, 4294967293: 2, 4294967294: 1, 4294967295: 0} {
		if n := uid.New(next).Left(); n != left {
			t.Errorf("Left of New(%d) = %d, want %d", next, n, left)
		}
	}
}

// Left is as many as Take then takes.
func TestLeftCanBeTaken(t *testing.T) {
	for _, start := range []uint32{most - 1000, most - 1, most} {
		c := uid.New(start)
		left := c.Left()
		taken := uint32(0)
		for _, e := c.Take(); e == api.OK; _, e = c.Take() {
			taken++
			if c.Left() != left-taken {
				t.Fatalf("New(%d): %d left after %d of %d", start, c.Left(), taken, left)
			}
		}
		if taken != left {
			t.Errorf("New(%d): %d taken of %d", start, taken, left)
		}
	}
}

// Only a Take that returns an identifier counts.
func TestTaken(t *testing.T) {
	c := uid.New(most - 3)
	for i, want := range []uint64{1, 2, 3, 3, 3} {
		c.Take()
		if n := c.Taken(); n != want {
			t.Errorf("after %d calls of Take: Taken = %d, want %d", i+1, n, want)
		}
	}
	d := uid.New(1)
	d.Skip(1000)
	if n := d.Taken(); n != 0 {
		t.Errorf("after Skip: Taken = %d", n)
	}
	for range 1 << 17 {
		d.Take()
	}
	d.Skip(most)
	d.Take()
	if n := d.Taken(); n != 1<<17 {
		t.Errorf("Taken = %d", n)
	}
}

// The validity is that of the beginning, whenever it is asked for.
func TestValidity(t *testing.T) {
	for _, start := range starts {
		want := max(start, 1)
		for when := range 4 {
			c := uid.New(start)
			for i, call := range []func(){func() {}, func() { c.Take() }, func() { c.Skip(most - 1) }, func() { c.Take() }} {
				call()
				if i < when {
					continue
				}
				if n := c.Validity(); n != want {
					t.Errorf("New(%d), asked for after %d calls: Validity = %d after %d", start, when, n, i)
				}
			}
			if n, v := c.Next(), c.Validity(); n < most-1 || v != want {
				t.Errorf("New(%d): Next = %d, Validity = %d", start, n, v)
			}
		}
	}
}

// P11.5

func TestTakenAscend(t *testing.T) {
	for _, start := range starts {
		c := uid.New(start)
		last, count := uint32(0), uint64(0)
		// A third of the calls follows a Skip, at first to small numbers, at last to all.
		for i := range uint32(32 * 650) {
			if i%3 == 0 {
				c.Skip(i * i * 2654435761 >> (31 - i/650))
			}
			n, e := c.Take()
			if e != api.OK {
				continue
			}
			if n <= last || n == most {
				t.Fatalf("New(%d): %d is taken after %d", start, n, last)
			}
			last = n
			count++
		}
		if c.Taken() != count {
			t.Errorf("New(%d): Taken = %d, want %d", start, c.Taken(), count)
		}
	}
}

// P1, P2 and the rules

func TestNil(t *testing.T) {
	var c *uid.Counter
	for range 2 {
		if n, e := c.Take(); n != 0 || e != api.ErrNil {
			t.Errorf("Take = %d, %d", n, e)
		}
		for _, to := range starts {
			if c.Skip(to) {
				t.Errorf("Skip(%d) = true", to)
			}
		}
		if c.Next() != 0 || c.Left() != 0 || c.Taken() != 0 || c.Validity() != 0 {
			t.Errorf("%d, %d, %d, %d", c.Next(), c.Left(), c.Taken(), c.Validity())
		}
	}
}

// Counters that were made separately have nothing in common, even if they were made with the same number (P2).
func TestCountersAreIndependent(t *testing.T) {
	var cs []*uid.Counter
	var ms []*model
	for range 2 {
		for _, start := range starts {
			cs, ms = append(cs, uid.New(start)), append(ms, newModel(start))
		}
	}
	for i := range 2000 {
		k := i * 7 % len(cs)
		calls[i*5%len(calls)](t, cs[k], ms[k])
		for j := range cs {
			checkNumbers(t, cs[j], ms[j])
		}
	}
	for j := range cs {
		checkValidity(t, cs[j], ms[j])
	}
}

// The functions may be called concurrently, each counter by one goroutine.
func TestConcurrentCounters(t *testing.T) {
	var wg sync.WaitGroup
	for _, start := range starts {
		wg.Go(func() {
			c, m := uid.New(start), newModel(start)
			for i := range 2000 {
				n, e := c.Take()
				if wantN, wantE := m.take(); n != wantN || e != wantE {
					t.Errorf("New(%d), call %d: Take = %d, %d", start, i, n, e)
					return
				}
			}
			if int64(c.Validity()) != m.first || c.Taken() != uint64(m.taken) || int64(c.Next()) != m.next {
				t.Errorf("New(%d): %d, %d, %d", start, c.Validity(), c.Taken(), c.Next())
			}
		})
	}
	wg.Wait()
}
