package lock_test

import (
	"math"
	"slices"
	"strconv"
	"testing"

	"cubbyhole/api"
	"cubbyhole/lock"
)

// most is the greatest number of locks of a table.
const most = 65536

// model is a table as the chapter's sentences give it: the owner of each lock, or -1, and how many locks were acquired.
type model struct {
	owners   []int
	acquired int
}

// newModel returns what New is to return.
func newModel(n int) *model {
	return &model{owners: slices.Repeat([]int{-1}, n)}
}

// exists reports whether there is a lock.
func (m *model) exists(lock int) bool {
	return lock >= 0 && lock < len(m.owners)
}

// acquire returns what Acquire is to return.
func (m *model) acquire(owner, lock int) api.Code {
	if owner < 0 || !m.exists(lock) {
		return 2
	}
	if m.owners[lock] == owner {
		return 8
	}
	if slices.Contains(m.owners[lock+1:], owner) {
		return 10
	}
	if m.owners[lock] >= 0 {
		return 9
	}
	m.owners[lock] = owner
	m.acquired++
	return 0
}

// release returns what Release is to return.
func (m *model) release(owner int) int {
	n := 0
	for lock, o := range m.owners {
		if o >= 0 && o == owner {
			m.owners[lock] = -1
			n++
		}
	}
	return n
}

// owner returns what Owner is to return.
func (m *model) owner(lock int) (int, bool) {
	if !m.exists(lock) || m.owners[lock] < 0 {
		return 0, false
	}
	return m.owners[lock], true
}

// held returns what Held is to return.
func (m *model) held(owner int) []int {
	var l []int
	for lock, o := range m.owners {
		if o >= 0 && o == owner {
			l = append(l, lock)
		}
	}
	return l
}

// free returns what Free is to return.
func (m *model) free() bool {
	return !slices.ContainsFunc(m.owners, func(o int) bool { return o >= 0 })
}

// blocked returns what Blocked is to return.
func (m *model) blocked(owner int, locks ...int) bool {
	for _, lock := range locks {
		o, held := m.owner(lock)
		if !held || o != owner {
			return held
		}
	}
	return false
}

// odd are numbers that are no locks of small tables, and those that are negative are no owners.
var odd = []int{math.MinInt, -1 << 32, -2, -1, most, 1 << 32, 1<<32 + 1, math.MaxInt}

// people are the owners of the exhaustive tests.
var people = []int{0, 1, math.MaxInt}

// lists returns all lists of up to two locks around those of a small table, and some longer ones.
func lists(n int) [][]int {
	l := [][]int{nil, {}, {0, 1, 2}, {0, 0, 1}, {2, 1, 0}, {1, 2, 0}, {0, 1, 9, 2}, {0, 2, -1, 1}, {0, 1, 2, 3}, {3, 3, 3}}
	for a := -1; a <= n; a++ {
		l = append(l, []int{a})
		for b := -1; b <= n; b++ {
			l = append(l, []int{a, b})
		}
	}
	return l
}

// checkLocks compares what a table says about its locks, except about lists of them, with what it is to say.
func checkLocks(t *testing.T, x *lock.Table, m *model) {
	t.Helper()
	if x.Len() != len(m.owners) || x.Free() != m.free() || x.Acquired() != m.acquired {
		t.Fatalf("of %d: Len = %d, Free = %v, Acquired = %d, want %d, %v, %d", m.owners, x.Len(), x.Free(), x.Acquired(), len(m.owners), m.free(), m.acquired)
	}
	for l := -2; l <= len(m.owners)+1; l++ {
		checkOwner(t, x, m, l)
	}
	for _, l := range odd {
		checkOwner(t, x, m, l)
	}
	for _, owner := range slices.Concat(odd, people, []int{2, 3}) {
		if l := x.Held(owner); !slices.Equal(l, m.held(owner)) {
			t.Fatalf("of %d: Held(%d) = %d, want %d", m.owners, owner, l, m.held(owner))
		}
	}
}

// checkOwner calls Owner, and compares what it returns with what it is to return.
func checkOwner(t *testing.T, x *lock.Table, m *model, l int) {
	t.Helper()
	o, ok := x.Owner(l)
	if want, wantOK := m.owner(l); o != want || ok != wantOK {
		t.Fatalf("of %d: Owner(%d) = %d, %v, want %d, %v", m.owners, l, o, ok, want, wantOK)
	}
}

// check compares everything that a small table says with what it is to say.
func check(t *testing.T, x *lock.Table, m *model) {
	t.Helper()
	checkLocks(t, x, m)
	for _, owner := range []int{math.MinInt, -1, 0, 1, 2, math.MaxInt} {
		for _, l := range lists(len(m.owners)) {
			if b := x.Blocked(owner, l...); b != m.blocked(owner, l...) {
				t.Fatalf("of %d: Blocked(%d, %d) = %v", m.owners, owner, l, b)
			}
		}
	}
}

// checkAcquire calls Acquire, and compares what it returns with what it is to return.
func checkAcquire(t *testing.T, x *lock.Table, m *model, owner, l int) {
	t.Helper()
	before := slices.Clone(m.owners)
	if e, want := x.Acquire(owner, l), m.acquire(owner, l); e != want {
		t.Fatalf("of %d: Acquire(%d, %d) = %d, want %d", before, owner, l, e, want)
	}
}

// checkRelease calls Release, and compares what it returns with what it is to return.
func checkRelease(t *testing.T, x *lock.Table, m *model, owner int) {
	t.Helper()
	before := slices.Clone(m.owners)
	if n, want := x.Release(owner), m.release(owner); n != want {
		t.Fatalf("of %d: Release(%d) = %d, want %d", before, owner, n, want)
	}
}

// made returns a table in which each lock has an owner, or is free, for which there is -1, and its model.
func made(t *testing.T, owners ...int) (*lock.Table, *model) {
	t.Helper()
	x, m := lock.New(len(owners)), newModel(len(owners))
	for l, owner := range owners {
		if owner >= 0 {
			checkAcquire(t, x, m, owner, l)
		}
	}
	if !slices.Equal(m.owners, owners) {
		t.Fatalf("made %d, want %d", m.owners, owners)
	}
	return x, m
}

// states returns all ways in which a number of locks can be held by the people, or be free.
func states(locks int) [][]int {
	l := [][]int{nil}
	for range locks {
		var longer [][]int
		for _, state := range l {
			for _, owner := range append([]int{-1}, people...) {
				longer = append(longer, append(slices.Clone(state), owner))
			}
		}
		l = longer
	}
	return l
}

// Each call has the result that the chapter's sentences give, however the locks are held, and changes nothing else (P14.2 to P14.5).
func TestCallsInEveryState(t *testing.T) {
	for locks := range 5 {
		for _, state := range states(locks) {
			x, m := made(t, state...)
			check(t, x, m)
			for _, owner := range []int{math.MinInt, -1, 0, 1, 2, math.MaxInt} {
				for _, l := range []int{math.MinInt, -1, 0, 1, 2, 3, 4, 5, most, math.MaxInt} {
					x, m := made(t, state...)
					checkAcquire(t, x, m, owner, l)
					checkLocks(t, x, m)
				}
				x, m := made(t, state...)
				checkRelease(t, x, m, owner)
				check(t, x, m)
			}
		}
	}
}

// calls are all calls that change a table of three locks, or may.
func calls() []func(t *testing.T, x *lock.Table, m *model) {
	var l []func(t *testing.T, x *lock.Table, m *model)
	for _, owner := range people {
		for n := range 3 {
			l = append(l, func(t *testing.T, x *lock.Table, m *model) { checkAcquire(t, x, m, owner, n) })
		}
		l = append(l, func(t *testing.T, x *lock.Table, m *model) { checkRelease(t, x, m, owner) })
	}
	return append(l,
		func(t *testing.T, x *lock.Table, m *model) { checkAcquire(t, x, m, -1, 0) },
		func(t *testing.T, x *lock.Table, m *model) { checkAcquire(t, x, m, 0, 3) },
		func(t *testing.T, x *lock.Table, m *model) { checkRelease(t, x, m, -1) },
	)
}

// Each row of up to four calls that change a table, or may, has the results that the chapter's sentences give (P14.2 to P14.5).
func TestCallsInEveryOrder(t *testing.T) {
	l := calls()
	rows := 1
	for size := range 5 {
		for row := range rows {
			x, m := made(t, -1, -1, -1)
			for rest, i := row, 0; i < size; i++ {
				l[rest%len(l)](t, x, m)
				rest /= len(l)
			}
			checkLocks(t, x, m)
		}
		rows *= len(l)
	}
}

// What the calls return does not depend on how long a table has been used (P14.2 to P14.5).
func TestManyCalls(t *testing.T) {
	l := calls()
	for step := 1; step < 40; step += 2 {
		x, m := made(t, -1, -1, -1)
		for i := range 2000 {
			l[(i*step+i*i/7)%len(l)](t, x, m)
			if i%50 == 0 {
				check(t, x, m)
			}
		}
		check(t, x, m)
	}
}

// P14.1

func TestNew(t *testing.T) {
	for _, n := range []int{math.MinInt, -1 << 32, -65536, -2, -1, 65537, 65538, 1 << 17, 1 << 31, 1 << 32, 1<<32 + 1, math.MaxInt} {
		if lock.New(n) != nil {
			t.Errorf("New(%d) is not nil", n)
		}
	}
	for _, n := range []int{0, 1, 2, 6, 255, 256, 257, 32768, 65535, 65536} {
		x := lock.New(n)
		if x == nil {
			t.Fatalf("New(%d) = nil", n)
		}
		checkLocks(t, x, newModel(n))
		if x.Len() != n || !x.Free() || x.Acquired() != 0 {
			t.Errorf("of New(%d): Len = %d, Free = %v, Acquired = %d", n, x.Len(), x.Free(), x.Acquired())
		}
	}
}

// Exactly the locks from 0 to n - 1 exist.
func TestLocksOfATable(t *testing.T) {
	for _, n := range []int{0, 1, 2, 6, 255, 256, 65535, 65536} {
		x := lock.New(n)
		for _, l := range []int{math.MinInt, -1 << 32, -2, -1, n, n + 1, 2*n + 1, 1 << 32, math.MaxInt} {
			if e := x.Acquire(1, l); e != api.ErrRange {
				t.Errorf("of %d: Acquire(1, %d) = %d", n, l, e)
			}
		}
		checkLocks(t, x, newModel(n))
		for l := range n {
			if e := x.Acquire(l+5, l); e != api.OK {
				t.Fatalf("of %d: Acquire(%d, %d) = %d", n, l+5, l, e)
			}
		}
		for l := range n {
			if o, ok := x.Owner(l); o != l+5 || !ok || !slices.Equal(x.Held(o), []int{l}) {
				t.Fatalf("of %d: Owner(%d) = %d, %v, and holds %d", n, l, o, ok, x.Held(o))
			}
		}
		if x.Len() != n || x.Acquired() != n || x.Free() != (n == 0) {
			t.Errorf("of %d: Len = %d, Acquired = %d, Free = %v", n, x.Len(), x.Acquired(), x.Free())
		}
	}
}

// P14.2

func TestAcquire(t *testing.T) {
	x, m := made(t, -1, -1, -1, -1, -1, -1)
	for i, c := range []struct {
		owner, lock int
		e           api.Code
	}{
		{1, 2, api.OK}, {1, 2, api.ErrDuplicate}, {2, 2, api.ErrHeld}, {0, 2, api.ErrHeld}, {1, 1, api.ErrOrder}, {1, 0, api.ErrOrder},
		{2, 1, api.OK}, {1, 1, api.ErrOrder}, {2, 0, api.ErrOrder}, {2, 2, api.ErrHeld},
		{0, 0, api.OK}, {0, 0, api.ErrDuplicate}, {0, 1, api.ErrHeld}, {0, 3, api.OK}, {0, 1, api.ErrOrder}, {0, 2, api.ErrOrder},
		{math.MaxInt, 4, api.OK}, {math.MaxInt, 3, api.ErrOrder}, {math.MaxInt, 4, api.ErrDuplicate}, {math.MaxInt, 5, api.OK}, {1, 5, api.ErrHeld},
	} {
		if e := x.Acquire(c.owner, c.lock); e != c.e {
			t.Errorf("call %d: Acquire(%d, %d) = %d, want %d", i, c.owner, c.lock, e, c.e)
		}
		m.acquire(c.owner, c.lock)
		check(t, x, m)
	}
}

// Of several errors, the one that comes first in the chapter is returned, and nothing changes.
func TestAcquireErrors(t *testing.T) {
	for _, c := range []struct {
		owner, lock int
		e           api.Code
	}{
		// The owner 1 holds the locks 1 and 3, the owner 2 the lock 2, and 0 and 4 are free.
		{-1, 0, api.ErrRange}, {-1, 1, api.ErrRange}, {-1, 5, api.ErrRange}, {math.MinInt, 4, api.ErrRange}, {math.MinInt, -1, api.ErrRange},
		{1, 5, api.ErrRange}, {1, -1, api.ErrRange}, {2, 5, api.ErrRange}, {2, -1, api.ErrRange}, {7, -1, api.ErrRange}, {7, 5, api.ErrRange}, {7, math.MaxInt, api.ErrRange},
		{1, 1, api.ErrDuplicate}, {1, 3, api.ErrDuplicate}, {2, 2, api.ErrDuplicate},
		{1, 0, api.ErrOrder}, {1, 2, api.ErrOrder}, {2, 0, api.ErrOrder}, {2, 1, api.ErrOrder},
		{2, 3, api.ErrHeld}, {0, 1, api.ErrHeld}, {0, 2, api.ErrHeld}, {7, 3, api.ErrHeld},
	} {
		x, m := made(t, -1, 1, 2, 1, -1)
		for range 2 {
			if e := x.Acquire(c.owner, c.lock); e != c.e {
				t.Errorf("Acquire(%d, %d) = %d, want %d", c.owner, c.lock, e, c.e)
			}
			check(t, x, m)
		}
		if e := x.Acquire(1, 4); e != api.OK {
			t.Errorf("after Acquire(%d, %d): Acquire(1, 4) = %d", c.owner, c.lock, e)
		}
	}
}

func TestChapterExample(t *testing.T) {
	x := lock.New(4)
	for i, c := range []struct {
		owner, lock int
		e           api.Code
	}{{1, 3, api.OK}, {1, 2, api.ErrOrder}, {2, 3, api.ErrHeld}} {
		if e := x.Acquire(c.owner, c.lock); e != c.e {
			t.Errorf("call %d: Acquire(%d, %d) = %d", i, c.owner, c.lock, e)
		}
	}
}

// The greatest lock that an owner has held, but has released, does not forbid lesser ones, and neither do locks of others.
func TestAcquireAfterRelease(t *testing.T) {
	x, m := made(t, -1, 1, -1, 1, 2)
	checkAcquire(t, x, m, 3, 0)
	checkRelease(t, x, m, 1)
	for _, c := range []struct {
		owner, lock int
		e           api.Code
	}{{1, 0, api.ErrHeld}, {2, 3, api.ErrOrder}, {1, 1, api.OK}, {1, 1, api.ErrDuplicate}, {3, 3, api.OK}, {1, 2, api.OK}, {1, 3, api.ErrHeld}} {
		if e := x.Acquire(c.owner, c.lock); e != c.e {
			t.Errorf("Acquire(%d, %d) = %d, want %d", c.owner, c.lock, e, c.e)
		}
		m.acquire(c.owner, c.lock)
		check(t, x, m)
	}
}

// P14.3

func TestRelease(t *testing.T) {
	x, m := made(t, 1, 0, 1, -1, 2, 1, math.MaxInt)
	for i, c := range []struct {
		owner, n int
		free     bool
	}{{3, 0, false}, {-1, 0, false}, {1, 3, false}, {1, 0, false}, {0, 1, false}, {0, 0, false}, {math.MaxInt, 1, false}, {math.MinInt, 0, false}, {2, 1, true}, {2, 0, true}} {
		if n := x.Release(c.owner); n != c.n {
			t.Errorf("call %d: Release(%d) = %d, want %d", i, c.owner, n, c.n)
		}
		m.release(c.owner)
		check(t, x, m)
		if x.Free() != c.free {
			t.Errorf("after call %d: Free = %v", i, x.Free())
		}
	}
}

func TestOwner(t *testing.T) {
	x, _ := made(t, 0, -1, 5, 0, math.MaxInt)
	for _, c := range []struct {
		lock, owner int
		ok          bool
	}{
		{0, 0, true}, {1, 0, false}, {2, 5, true}, {3, 0, true}, {4, math.MaxInt, true},
		{5, 0, false}, {6, 0, false}, {-1, 0, false}, {math.MinInt, 0, false}, {math.MaxInt, 0, false}, {1 << 32, 0, false}, {1<<32 + 2, 0, false},
	} {
		if o, ok := x.Owner(c.lock); o != c.owner || ok != c.ok {
			t.Errorf("Owner(%d) = %d, %v, want %d, %v", c.lock, o, ok, c.owner, c.ok)
		}
	}
}

func TestHeld(t *testing.T) {
	x, _ := made(t, 0, -1, 5, 0, math.MaxInt, 5, 5, -1, 0)
	for owner, want := range map[int][]int{0: {0, 3, 8}, 5: {2, 5, 6}, math.MaxInt: {4}, 1: nil, -1: nil, math.MinInt: nil} {
		if l := x.Held(owner); !slices.Equal(l, want) {
			t.Errorf("Held(%d) = %d, want %d", owner, l, want)
		}
	}
}

// All locks of the greatest table are held in ascending order, by one owner or by two, and are released at once.
func TestAllLocksOfTheGreatestTable(t *testing.T) {
	for owners := 1; owners <= 2; owners++ {
		x := lock.New(most)
		for l := range most {
			if e := x.Acquire(l%owners, l); e != api.OK {
				t.Fatalf("Acquire(%d, %d) = %d", l%owners, l, e)
			}
		}
		for owner := range owners {
			l := x.Held(owner)
			for i, n := range l {
				if n != i*owners+owner {
					t.Fatalf("of %d owners: lock %d of %d is %d", owners, i, owner, n)
				}
			}
			if n := x.Release(owner); n != most/owners || len(l) != n || x.Free() != (owner == owners-1) {
				t.Errorf("of %d owners: Release(%d) = %d of %d, and Free = %v", owners, owner, n, len(l), x.Free())
			}
		}
		if x.Acquired() != most || x.Acquire(0, 0) != api.OK {
			t.Errorf("of %d owners: Acquired = %d", owners, x.Acquired())
		}
	}
}

// P14.4

func TestBlocked(t *testing.T) {
	x, _ := made(t, -1, 1, 2, 1, 2, 0, -1)
	for i, c := range []struct {
		owner int
		locks []int
		want  bool
	}{
		// With all locks of the list, or without any list, there is nothing to wait for.
		{1, nil, false}, {1, []int{}, false}, {1, []int{1}, false}, {1, []int{1, 3}, false}, {1, []int{3, 1}, false}, {1, []int{1, 1, 3, 3}, false}, {0, []int{5}, false}, {2, []int{2, 4}, false},
		// Only the first lock that the owner does not hold matters, wherever it is in the list.
		{1, []int{2}, true}, {1, []int{1, 2}, true}, {1, []int{1, 3, 5}, true}, {1, []int{3, 1, 4}, true}, {1, []int{2, 0}, true}, {1, []int{2, 9}, true}, {1, []int{1, 2, 3}, true},
		{1, []int{0, 2}, false}, {1, []int{1, 0, 2}, false}, {1, []int{1, 3, 6, 5}, false}, {1, []int{6}, false}, {1, []int{0}, false},
		// What does not exist is held by nobody.
		{1, []int{7}, false}, {1, []int{-1}, false}, {1, []int{-1, 2}, false}, {1, []int{7, 2}, false}, {1, []int{1, 7, 2}, false}, {1, []int{math.MaxInt, 2}, false}, {1, []int{math.MinInt, 2}, false},
		// Others hold a lock, be their number 0 or not, and so does who has no lock yet.
		{1, []int{5}, true}, {0, []int{1}, true}, {0, []int{5, 2}, true}, {7, []int{1}, true}, {7, []int{5}, true}, {7, []int{0, 5}, false}, {0, []int{0}, false},
		// A negative number holds no lock.
		{-1, []int{1}, true}, {-1, []int{5}, true}, {-1, []int{0, 1}, false}, {math.MinInt, []int{4}, true}, {-1, nil, false}, {-1, []int{-1}, false},
	} {
		if b := x.Blocked(c.owner, c.locks...); b != c.want {
			t.Errorf("case %d: Blocked(%d, %d) = %v", i, c.owner, c.locks, b)
		}
	}
}

// Whom another owner blocks is not blocked any more once that one has released its locks.
func TestBlockedUntilRelease(t *testing.T) {
	x, _ := made(t, 1, 2, 3)
	for i, c := range []struct {
		release    int
		one, three bool // whether the owners 1 and 3 are blocked for the lock 1 of the owner 2
	}{{9, true, true}, {1, true, true}, {3, true, true}, {2, false, false}} {
		x.Release(c.release)
		if one, three := x.Blocked(1, 1), x.Blocked(3, 1); one != c.one || three != c.three {
			t.Errorf("call %d: Blocked = %v, %v", i, one, three)
		}
	}
	if e := x.Acquire(3, 1); e != api.OK || !x.Blocked(1, 1) || x.Blocked(3, 1) {
		t.Errorf("Acquire = %d, then Blocked = %v, %v", e, x.Blocked(1, 1), x.Blocked(3, 1))
	}
}

// P14.5

// Only an Acquire that returns api.OK counts, and Release takes nothing away.
func TestAcquired(t *testing.T) {
	x := lock.New(3)
	for i, c := range []struct{ owner, lock, want int }{{1, 0, 1}, {1, 0, 1}, {2, 0, 1}, {2, 1, 2}, {2, 0, 2}, {1, 3, 2}, {-1, 2, 2}, {1, 2, 3}, {1, 1, 3}} {
		x.Acquire(c.owner, c.lock)
		if n := x.Acquired(); n != c.want {
			t.Errorf("after call %d: Acquired = %d, want %d", i, n, c.want)
		}
	}
	for i := range 70000 {
		x.Release(1)
		x.Release(2)
		if e := x.Acquire(1+i%2, i%3); e != api.OK || x.Acquired() != 4+i || x.Acquired() != 4+i {
			t.Fatalf("round %d: Acquire = %d, and Acquired = %d", i, e, x.Acquired())
		}
	}
}

// P14.6

// However the locks are held, the owner of the greatest one that is held is not blocked for any greater lock.
func TestTheOwnerOfTheGreatestLockIsNotBlocked(t *testing.T) {
	for locks := 1; locks < 6; locks++ {
		for _, state := range states(locks) {
			x, _ := made(t, state...)
			greatest := locks - 1
			for greatest >= 0 && state[greatest] < 0 {
				greatest--
			}
			if greatest < 0 {
				continue
			}
			owner, _ := x.Owner(greatest)
			mine := x.Held(owner)
			for l := greatest + 1; l <= locks; l++ {
				if x.Blocked(owner, l) || x.Blocked(owner, append(slices.Clone(mine), l)...) {
					t.Fatalf("of %d: the owner %d is blocked for %d", state, owner, l)
				}
			}
			if e := x.Acquire(owner, locks-1); greatest < locks-1 && e != api.OK {
				t.Fatalf("of %d: Acquire(%d, %d) = %d", state, owner, locks-1, e)
			}
		}
	}
}

// chosen returns the locks whose bits a number has, in ascending order.
func chosen(bits int) []int {
	var l []int
	for i := range 4 {
		if bits>>i&1 == 1 {
			l = append(l, i)
		}
	}
	return l
}

// run lets owners acquire their locks in ascending order, and release them then, until all have done so. Who is next depends on a number.
func run(t *testing.T, plans [][]int, seed int) {
	x, m := lock.New(4), newModel(4)
	var open []int
	for owner := range plans {
		open = append(open, owner)
	}
	for round := 0; len(open) > 0; round++ {
		able := slices.DeleteFunc(slices.Clone(open), func(owner int) bool { return x.Blocked(owner, plans[owner]...) })
		if len(able) == 0 {
			t.Fatalf("the plans %d: all of %d are blocked, as the locks are held by %d", plans, open, m.owners)
		}
		owner := able[(seed>>(round%8)+round*seed)%len(able)]
		if i := len(x.Held(owner)); i < len(plans[owner]) {
			checkAcquire(t, x, m, owner, plans[owner][i])
			if o, ok := x.Owner(plans[owner][i]); o != owner || !ok {
				t.Fatalf("the plans %d: %d does not get the lock %d, and is not blocked", plans, owner, plans[owner][i])
			}
			continue
		}
		checkRelease(t, x, m, owner)
		open = slices.DeleteFunc(open, func(o int) bool { return o == owner })
	}
	if !x.Free() {
		t.Fatalf("the plans %d: at the end, the locks are held by %d", plans, m.owners)
	}
}

// Owners who acquire their locks in ascending order are never all blocked, and all get to their end.
func TestNotAllOwnersAreBlocked(t *testing.T) {
	for a := range 16 {
		for b := range 16 {
			for c := range 16 {
				for _, seed := range []int{0, 1, 85, 170, 214} {
					run(t, [][]int{chosen(a), chosen(b), chosen(c)}, seed)
				}
			}
		}
	}
}

// P1, P2 and the rules

func TestNil(t *testing.T) {
	var x *lock.Table
	for _, owner := range slices.Concat(odd, people) {
		for _, l := range slices.Concat(odd, []int{0, 1, 5}) {
			if e := x.Acquire(owner, l); e != api.ErrNil {
				t.Errorf("Acquire(%d, %d) = %d", owner, l, e)
			}
			if o, ok := x.Owner(l); o != 0 || ok {
				t.Errorf("Owner(%d) = %d, %v", l, o, ok)
			}
			if x.Blocked(owner, l) || x.Blocked(owner, l, l+1, l) {
				t.Errorf("Blocked(%d, %d) = true", owner, l)
			}
		}
		if n := x.Release(owner); n != 0 {
			t.Errorf("Release(%d) = %d", owner, n)
		}
		if l := x.Held(owner); len(l) != 0 {
			t.Errorf("Held(%d) = %d", owner, l)
		}
		if x.Blocked(owner) {
			t.Errorf("Blocked(%d) = true", owner)
		}
	}
	if x.Len() != 0 || x.Free() || x.Acquired() != 0 {
		t.Errorf("%d, %v, %d", x.Len(), x.Free(), x.Acquired())
	}
}

// A table without locks has all of them free.
func TestNoLocks(t *testing.T) {
	x, m := made(t)
	check(t, x, m)
	for _, owner := range people {
		checkAcquire(t, x, m, owner, 0)
		checkRelease(t, x, m, owner)
	}
	check(t, x, m)
	if !x.Free() {
		t.Error("Free = false")
	}
}

// Blocked neither modifies nor keeps its list, and reads nothing beyond the length of it.
func TestArgumentsAreNotKept(t *testing.T) {
	x, m := made(t, 1, 1, 2, -1)
	room := []int{1, 0, 2, 3}
	if x.Blocked(1, room[:2]...) || !x.Blocked(1, room[:3]...) {
		t.Errorf("Blocked = %v, %v", x.Blocked(1, room[:2]...), x.Blocked(1, room[:3]...))
	}
	if !slices.Equal(room, []int{1, 0, 2, 3}) {
		t.Errorf("the list is then %d", room)
	}
	room[0], room[1] = 3, 3
	check(t, x, m)
}

// A result shares memory neither with the table nor with another result.
func TestResultsAreNotShared(t *testing.T) {
	x, m := made(t, 1, 2, 1, 1, -1, -1, -1)
	a, b := x.Held(1), x.Held(1)
	a[0] = 100
	_ = append(a[:1], 100, 100)
	if !slices.Equal(b, []int{0, 2, 3}) {
		t.Errorf("the other result is then %d", b)
	}
	check(t, x, m)
	a = append(x.Held(1), 100)
	checkAcquire(t, x, m, 1, 5)
	checkAcquire(t, x, m, 1, 6)
	check(t, x, m)
	if !slices.Equal(a, []int{0, 2, 3, 100}) {
		t.Errorf("what was appended to a result is then %d", a)
	}
	checkRelease(t, x, m, 1)
	checkAcquire(t, x, m, 1, 4)
	check(t, x, m)
	if !slices.Equal(b, []int{0, 2, 3}) {
		t.Errorf("the older result is then %d", b)
	}
}

// Tables that were made separately have nothing in common, even if they have the same owners (P2).
func TestTablesAreIndependent(t *testing.T) {
	var xs []*lock.Table
	var ms []*model
	for range 2 {
		for _, state := range states(3) {
			x, m := made(t, state...)
			xs, ms = append(xs, x), append(ms, m)
		}
	}
	l := calls()
	for i := range 300 {
		k := i * 7 % len(xs)
		l[i*5%len(l)](t, xs[k], ms[k])
		for j := range xs {
			checkLocks(t, xs[j], ms[j])
		}
	}
}

// The functions may be called concurrently, each table by one goroutine, even if they have the same owners.
func TestConcurrentTables(t *testing.T) {
	l := calls()
	for k := range 16 {
		t.Run(strconv.Itoa(k), func(t *testing.T) {
			t.Parallel()
			x, m := lock.New(3), newModel(3)
			for i := range 3000 {
				l[(i*(2*k+1)+i*i/5)%len(l)](t, x, m)
			}
			check(t, x, m)
		})
	}
}
