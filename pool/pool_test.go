package pool

import (
	"bytes"
	"math"
	"math/rand"
	"slices"
	"testing"

	"credenza/api"
	"credenza/page"
)

const (
	far  = math.MaxInt
	deep = math.MinInt
)

// entry is a page, and how often it is held; a free slot's is empty.
type entry struct {
	page *page.Page
	refs int
}

// plain is a pool as a list, by the chapter's words alone.
type plain []entry

func (l plain) put(x *page.Page) (int, api.Errno) {
	for id := range l {
		if l[id].refs == 0 {
			l[id] = entry{x, 1}
			return id, api.OK
		}
	}
	return 0, api.ErrFull
}

func (l plain) get(id int) (*page.Page, api.Errno) {
	if l.refs(id) == 0 {
		return nil, api.ErrNone
	}
	return l[id].page, api.OK
}

func (l plain) refs(id int) int {
	if id < 0 || id >= len(l) {
		return 0
	}
	return l[id].refs
}

func (l plain) hold(id int) api.Errno {
	if l.refs(id) == 0 {
		return api.ErrNone
	}
	l[id].refs++
	return api.OK
}

func (l plain) drop(id int) api.Errno {
	if l.refs(id) == 0 {
		return api.ErrNone
	}
	l[id].refs--
	if l[id].refs == 0 {
		l[id] = entry{}
	}
	return api.OK
}

func (l plain) used() []int {
	var ids []int
	for id := range l {
		if l[id].refs > 0 {
			ids = append(ids, id)
		}
	}
	return ids
}

// made makes a page that differs from those of other numbers.
func made(t *testing.T, i int) *page.Page {
	t.Helper()
	x, e := page.Quantize(page.Head{KeyBits: 2, ValueBits: 4, Tokens: 1, Dim: 1, Index: i}, [][]int32{{int32(i)}}, [][]int32{{-int32(i)}})
	if e != api.OK {
		t.Fatalf("a page of %d: %d", i, e)
	}
	return x
}

// of makes a pool of free slots.
func of(t *testing.T, slots int) *Pool {
	t.Helper()
	p, e := New(slots)
	if p == nil || e != api.OK {
		t.Fatalf("New(%d): %d", slots, e)
	}
	return p
}

// filled makes a pool whose slots all have a page of their own, held once.
func filled(t *testing.T, slots int) (*Pool, plain) {
	t.Helper()
	p, l := of(t, slots), make(plain, slots)
	for i := range slots {
		putBoth(t, p, l, made(t, i))
	}
	return p, l
}

// outside are numbers that no slot of so many has.
func outside(slots int) []int {
	return []int{deep, deep + 1, -1 << 32, -slots - 1, -2, -1, slots, slots + 1, 2*slots + 1, api.MaxPages, api.MaxPages + 1, 1 << 31, 1 << 32, 1<<32 + 1, far - 1, far}
}

// check asks of a pool all that it must tell, if it is as the list.
func check(t *testing.T, p *Pool, l plain) {
	t.Helper()
	used := p.Used()
	if p.Slots() != len(l) || p.Free() != len(l)-len(l.used()) || !slices.Equal(used, l.used()) {
		t.Fatalf("Slots %d, Free %d, Used %v, not %d slots with %v", p.Slots(), p.Free(), used, len(l), l.used())
	}
	if p.Free()+len(used) != p.Slots() || !slices.IsSorted(used) {
		t.Fatalf("Slots %d, Free %d, Used %v", p.Slots(), p.Free(), used)
	}
	for id := range l {
		checkSlot(t, p, l, id)
	}
	for _, id := range outside(len(l)) {
		checkSlot(t, p, l, id)
	}
}

// checkSlot asks what a pool tells of one number.
func checkSlot(t *testing.T, p *Pool, l plain, id int) {
	t.Helper()
	x, e := p.Get(id)
	if y, f := l.get(id); x != y || e != f {
		t.Fatalf("Get(%d): %p, %d, not %p, %d", id, x, e, y, f)
	}
	if p.Refs(id) != l.refs(id) {
		t.Fatalf("Refs(%d): %d, not %d", id, p.Refs(id), l.refs(id))
	}
}

// putBoth puts a page into a pool and its list alike.
func putBoth(t *testing.T, p *Pool, l plain, x *page.Page) {
	t.Helper()
	id, e := p.Put(x)
	if want, f := l.put(x); id != want || e != f {
		t.Fatalf("Put: %d, %d, not %d, %d", id, e, want, f)
	}
	check(t, p, l)
}

// holdBoth holds a slot of a pool and of its list.
func holdBoth(t *testing.T, p *Pool, l plain, id int) {
	t.Helper()
	if e, f := p.Hold(id), l.hold(id); e != f {
		t.Fatalf("Hold(%d): %d, not %d", id, e, f)
	}
	check(t, p, l)
}

// dropBoth drops a slot of a pool and of its list.
func dropBoth(t *testing.T, p *Pool, l plain, id int) {
	t.Helper()
	if e, f := p.Drop(id), l.drop(id); e != f {
		t.Fatalf("Drop(%d): %d, not %d", id, e, f)
	}
	check(t, p, l)
}

// refuse asks that a number has nothing, and that asking for it changes nothing.
func refuse(t *testing.T, p *Pool, l plain, id int) {
	t.Helper()
	if x, e := p.Get(id); x != nil || e != api.ErrNone {
		t.Errorf("Get(%d): %p, %d", id, x, e)
	}
	if n := p.Refs(id); n != 0 {
		t.Errorf("Refs(%d): %d", id, n)
	}
	for range 2 {
		if e := p.Hold(id); e != api.ErrNone {
			t.Errorf("Hold(%d): %d", id, e)
		}
		check(t, p, l)
	}
	for range 2 {
		if e := p.Drop(id); e != api.ErrNone {
			t.Errorf("Drop(%d): %d", id, e)
		}
		check(t, p, l)
	}
}

// P10.1: how many slots a pool may have.
func TestNew(t *testing.T) {
	for _, slots := range []int{deep, deep + 1, deep + 5, -1 << 32, 5 - 1<<32, -api.MaxPages, -2, -1, api.MaxPages + 1, api.MaxPages + 2, 2 * api.MaxPages, 1 << 31, 1 << 32, 1<<32 + 5, far - 1, far} {
		if p, e := New(slots); p != nil || e != api.ErrRange {
			t.Errorf("New(%d): %p, %d", slots, p, e)
		}
	}
	for _, slots := range []int{0, 1, 2, 3, 7, 64, 1000, api.MaxPages - 1, api.MaxPages} {
		p := of(t, slots)
		if p.Slots() != slots || p.Free() != slots || len(p.Used()) != 0 {
			t.Errorf("New(%d): Slots %d, Free %d, Used %v", slots, p.Slots(), p.Free(), p.Used())
		}
		check(t, p, make(plain, slots))
	}
	if api.MaxPages != 1<<14 {
		t.Errorf("MaxPages: %d", api.MaxPages)
	}
}

// P10.1: a pool without slots is full, and has nothing.
func TestNoSlots(t *testing.T) {
	p := of(t, 0)
	for range 3 {
		if id, e := p.Put(made(t, 1)); id != 0 || e != api.ErrFull {
			t.Errorf("Put: %d, %d", id, e)
		}
		check(t, p, plain{})
	}
	for _, id := range append(outside(0), 0) {
		refuse(t, p, plain{}, id)
	}
}

// P10.1: a full pool refuses, tells 0 beside the error, and stays as it is; one slot that is free again is enough.
func TestPutFull(t *testing.T) {
	for _, slots := range []int{1, 2, 3, 8} {
		p, l := filled(t, slots)
		for round := range 3 {
			if id, e := p.Put(made(t, 900+round)); id != 0 || e != api.ErrFull {
				t.Errorf("Put into %d: %d, %d", slots, id, e)
			}
			check(t, p, l)
		}
		for free := range slots {
			dropBoth(t, p, l, free)
			if id, e := p.Put(made(t, 500)); id != free || e != api.OK {
				t.Errorf("Put where %d is free: %d, %d", free, id, e)
			}
			p.Drop(free)
			check(t, p, l)
			putBoth(t, p, l, made(t, 600+free))
			putBoth(t, p, l, made(t, 700))
		}
	}
}

// P10.1: as many pages as a pool may have.
func TestPutMost(t *testing.T) {
	p := of(t, api.MaxPages)
	x, y := made(t, 1), made(t, 2)
	for i := range api.MaxPages {
		if id, e := p.Put(x); id != i || e != api.OK || p.Free() != api.MaxPages-1-i {
			t.Fatalf("Put %d: %d, %d, Free %d", i, id, e, p.Free())
		}
	}
	if id, e := p.Put(y); id != 0 || e != api.ErrFull || p.Free() != 0 || len(p.Used()) != api.MaxPages {
		t.Errorf("Put: %d, %d, Free %d", id, e, p.Free())
	}
	for _, free := range []int{api.MaxPages - 1, 0, 1 << 13, api.MaxPages - 2} {
		if e := p.Drop(free); e != api.OK || p.Free() != 1 {
			t.Errorf("Drop(%d): %d, Free %d", free, e, p.Free())
		}
		if id, e := p.Put(y); id != free || e != api.OK || p.Free() != 0 {
			t.Errorf("Put: %d, %d, not %d", id, e, free)
		}
		if got, e := p.Get(free); got != y || e != api.OK {
			t.Errorf("Get(%d): %d", free, e)
		}
	}
	l := make(plain, api.MaxPages)
	for id := range l {
		l[id] = entry{x, 1}
	}
	for _, id := range []int{api.MaxPages - 1, 0, 1 << 13, api.MaxPages - 2} {
		l[id].page = y
	}
	check(t, p, l)
}

// P10.1: whichever slots are free, and in whatever order they were dropped, the least one is taken, and then the next.
func TestPutLeast(t *testing.T) {
	const slots = 6
	for mask := range 1 << slots {
		for _, falling := range []bool{false, true} {
			p, l := filled(t, slots)
			for i := range slots {
				id := i
				if falling {
					id = slots - 1 - i
				}
				if mask>>id&1 == 1 {
					dropBoth(t, p, l, id)
				}
			}
			for id := range slots {
				if mask>>id&1 == 0 {
					continue
				}
				x := made(t, 100+id)
				if got, e := p.Put(x); got != id || e != api.OK {
					t.Fatalf("Put, free are %b: %d, %d, not %d", mask, got, e, id)
				}
				l[id] = entry{x, 1}
				check(t, p, l)
			}
			putBoth(t, p, l, made(t, 200))
		}
	}
}

// P10.1: the same page may be in several slots: each has a count of its own.
func TestPutTwice(t *testing.T) {
	p, l := of(t, 4), make(plain, 4)
	x := made(t, 3)
	for i := range 3 {
		if id, e := p.Put(x); id != i || e != api.OK {
			t.Fatalf("Put %d: %d, %d", i, id, e)
		}
		l[i] = entry{x, 1}
		check(t, p, l)
	}
	holdBoth(t, p, l, 1)
	dropBoth(t, p, l, 0)
	if p.Refs(0) != 0 || p.Refs(1) != 2 || p.Refs(2) != 1 || p.Free() != 2 {
		t.Errorf("Refs: %d, %d, %d", p.Refs(0), p.Refs(1), p.Refs(2))
	}
	dropBoth(t, p, l, 1)
	dropBoth(t, p, l, 1)
	if got, e := p.Get(2); got != x || e != api.OK || p.Free() != 3 {
		t.Errorf("Get(2): %d, Free %d", e, p.Free())
	}
	putBoth(t, p, l, x)
}

// P10.1, P10.2: numbers that have nothing: outside of the pool, never put to, and free again.
func TestNone(t *testing.T) {
	for _, slots := range []int{1, 2, 5, api.MaxPages} {
		p, l := of(t, slots), make(plain, slots)
		ids := outside(slots)
		for _, id := range append(ids, 0, slots-1, slots/2) {
			refuse(t, p, l, id)
		}
		putBoth(t, p, l, made(t, 1))
		for _, id := range ids {
			refuse(t, p, l, id)
		}
		if slots > 1 {
			refuse(t, p, l, 1)
			refuse(t, p, l, slots-1)
		}
		holdBoth(t, p, l, 0)
		dropBoth(t, p, l, 0)
		dropBoth(t, p, l, 0)
		refuse(t, p, l, 0)
	}
	p, l := filled(t, 5)
	for _, id := range outside(5) {
		refuse(t, p, l, id)
	}
	dropBoth(t, p, l, 2)
	refuse(t, p, l, 2)
	dropBoth(t, p, l, 4)
	refuse(t, p, l, 4)
	refuse(t, p, l, 2)
	putBoth(t, p, l, made(t, 9))
	refuse(t, p, l, 4)
	if p.Hold(2) != api.OK || p.Refs(2) != 2 {
		t.Errorf("Refs(2): %d", p.Refs(2))
	}
}

// P10.1: Get tells that very page, whatever is done with it and beside it, and the page stays as it is.
func TestGet(t *testing.T) {
	p := of(t, 3)
	x := made(t, 7)
	was := x.Bytes()
	p.Put(made(t, 1))
	id, _ := p.Put(x)
	same := func() {
		t.Helper()
		for range 2 {
			if got, e := p.Get(id); got != x || e != api.OK || !bytes.Equal(got.Bytes(), was) {
				t.Fatalf("Get(%d): %p, %d, not %p", id, got, e, x)
			}
		}
	}
	same()
	for range 3 {
		p.Hold(id)
		same()
	}
	p.Put(made(t, 2))
	same()
	p.Put(made(t, 3))
	same()
	p.Drop(0)
	same()
	p.Drop(2)
	same()
	y := made(t, 7)
	if at, e := p.Put(y); at != 0 || e != api.OK {
		t.Fatalf("Put: %d, %d", at, e)
	}
	same()
	if got, _ := p.Get(0); got != y || got == x {
		t.Errorf("Get(0) is not the one that was put")
	}
	for range 3 {
		p.Drop(id)
		same()
	}
	p.Drop(id)
	if got, e := p.Get(id); got != nil || e != api.ErrNone {
		t.Errorf("Get(%d): %p, %d", id, got, e)
	}
	z := made(t, 8)
	p.Put(z)
	if got, e := p.Get(id); got != z || e != api.OK || !bytes.Equal(x.Bytes(), was) {
		t.Errorf("Get(%d): %p, %d, not %p", id, got, e, z)
	}
}

// P10.2: Refs behind each call, and a slot that is free only when it was dropped as often as it was held.
func TestRefs(t *testing.T) {
	for _, holds := range []int{0, 1, 2, 3, 10, 300, 70000} {
		p := of(t, 3)
		p.Put(made(t, 1))
		id, _ := p.Put(made(t, 2))
		if p.Refs(id) != 1 || p.Free() != 1 {
			t.Fatalf("behind Put: Refs %d, Free %d", p.Refs(id), p.Free())
		}
		for i := range holds {
			if e := p.Hold(id); e != api.OK || p.Refs(id) != i+2 || p.Refs(0) != 1 || p.Free() != 1 || len(p.Used()) != 2 {
				t.Fatalf("Hold %d: %d, Refs %d, Free %d", i, e, p.Refs(id), p.Free())
			}
		}
		for i := holds; i > 0; i-- {
			if e := p.Drop(id); e != api.OK || p.Refs(id) != i || p.Refs(0) != 1 || p.Free() != 1 || len(p.Used()) != 2 {
				t.Fatalf("Drop %d: %d, Refs %d, Free %d", i, e, p.Refs(id), p.Free())
			}
		}
		if e := p.Drop(id); e != api.OK || p.Refs(id) != 0 || p.Free() != 2 || !slices.Equal(p.Used(), []int{0}) {
			t.Fatalf("the last Drop: %d, Refs %d, Free %d", e, p.Refs(id), p.Free())
		}
		if e := p.Drop(id); e != api.ErrNone || p.Refs(id) != 0 || p.Free() != 2 {
			t.Errorf("Drop past the last: %d, Refs %d, Free %d", e, p.Refs(id), p.Free())
		}
		if at, e := p.Put(made(t, 3)); at != id || e != api.OK || p.Refs(id) != 1 {
			t.Errorf("Put: %d, %d, Refs %d", at, e, p.Refs(id))
		}
	}
}

// P10.2: holds and drops that go up and down between.
func TestRefsMixed(t *testing.T) {
	p, l := filled(t, 3)
	for _, id := range []int{1, 1, 0, 2, 1} {
		holdBoth(t, p, l, id)
	}
	for _, id := range []int{1, 0, 1, 0, 0, 2, 1, 1, 1, 2, 2} {
		dropBoth(t, p, l, id)
	}
	if p.Free() != 3 || len(p.Used()) != 0 {
		t.Errorf("Free %d, Used %v", p.Free(), p.Used())
	}
	for i := range 3 {
		putBoth(t, p, l, made(t, i))
	}
}

// Nothing is kept of a page that nobody holds.
func TestKept(t *testing.T) {
	p, l := filled(t, 3)
	holdBoth(t, p, l, 1)
	for _, id := range []int{1, 0, 2, 1} {
		dropBoth(t, p, l, id)
	}
	for id := range p.slots {
		if p.slots[id].page != nil {
			t.Errorf("slot %d is free, and has a page", id)
		}
	}
}

// P10.2: what Used tells is new memory, its spare room too.
func TestUsedMemory(t *testing.T) {
	p, l := filled(t, 5)
	dropBoth(t, p, l, 3)
	first, second := p.Used(), p.Used()
	for i := range first[:cap(first)] {
		first[:cap(first)][i] = -7
	}
	if !slices.Equal(second, []int{0, 1, 2, 4}) {
		t.Errorf("two answers share memory: %v", second)
	}
	check(t, p, l)
	kept := p.Used()
	dropBoth(t, p, l, 0)
	putBoth(t, p, l, made(t, 1))
	putBoth(t, p, l, made(t, 2))
	dropBoth(t, p, l, 4)
	if !slices.Equal(kept, []int{0, 1, 2, 4}) {
		t.Errorf("an answer changed with the pool: %v", kept)
	}
}

// Two pools play no part in one another, also when they have the same page.
func TestTwoPools(t *testing.T) {
	p, l := of(t, 3), make(plain, 3)
	q, m := of(t, 2), make(plain, 2)
	x := made(t, 5)
	putBoth(t, p, l, x)
	check(t, q, m)
	putBoth(t, q, m, x)
	putBoth(t, q, m, made(t, 6))
	holdBoth(t, q, m, 0)
	check(t, p, l)
	holdBoth(t, p, l, 0)
	holdBoth(t, p, l, 0)
	check(t, q, m)
	for range 2 {
		dropBoth(t, q, m, 0)
		check(t, p, l)
	}
	refuse(t, q, m, 0)
	putBoth(t, p, l, made(t, 7))
	check(t, q, m)
}

// A long row of calls, held against a plain list.
func TestLong(t *testing.T) {
	r := rand.New(rand.NewSource(10))
	pages := make([]*page.Page, 20)
	for i := range pages {
		pages[i] = made(t, i)
	}
	for _, slots := range []int{0, 1, 2, 3, 9, 40} {
		p, l := of(t, slots), make(plain, slots)
		seen := map[api.Errno]int{}
		for step := range 20000 {
			id := r.Intn(slots+3) - 1
			if r.Intn(50) == 0 {
				wrong := outside(slots)
				id = wrong[r.Intn(len(wrong))]
			}
			var e, f api.Errno
			// Rows that rather fill take turns with rows that rather empty.
			switch kind := r.Intn(8); {
			case kind < 2+step/1000%2*2:
				var at, want int
				x := pages[r.Intn(len(pages))]
				at, e = p.Put(x)
				if want, f = l.put(x); at != want {
					t.Fatalf("step %d: Put: %d, not %d", step, at, want)
				}
			case kind < 5:
				e, f = p.Hold(id), l.hold(id)
			default:
				e, f = p.Drop(id), l.drop(id)
			}
			if e != f {
				t.Fatalf("step %d: %d, not %d", step, e, f)
			}
			seen[e]++
			check(t, p, l)
		}
		if seen[api.ErrFull] == 0 || seen[api.ErrNone] == 0 || slots > 0 && seen[api.OK] == 0 {
			t.Errorf("of %d slots: %v", slots, seen)
		}
	}
}

// The chapter's example.
func TestExample(t *testing.T) {
	p := of(t, 2)
	x := made(t, 3)
	a, e := p.Put(made(t, 1))
	b, f := p.Put(made(t, 2))
	if a != 0 || b != 1 || e != api.OK || f != api.OK {
		t.Fatalf("Put: %d, %d, and %d, %d", a, e, b, f)
	}
	if e := p.Drop(0); e != api.OK {
		t.Errorf("Drop: %d", e)
	}
	if id, e := p.Put(x); id != 0 || e != api.OK {
		t.Errorf("Put: %d, %d", id, e)
	}
	if got, e := p.Get(0); got != x || e != api.OK || p.Free() != 0 {
		t.Errorf("Get: %d, Free %d", e, p.Free())
	}
}
