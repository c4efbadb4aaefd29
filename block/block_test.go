package block

import (
	"bytes"
	"math"
	"math/rand"
	"slices"
	"testing"

	"credenza/api"
	"credenza/page"
	"credenza/pool"
)

const (
	far  = math.MaxInt
	deep = math.MinInt
	most = api.MaxLayers * api.MaxHeads // rows of a table
)

// entry is the number of a slot, and the page that was added.
type entry struct {
	id   int
	page *page.Page
}

// plain is a table as lists, by the chapter's words alone.
type plain [][]entry

func (l plain) copied() plain {
	c := make(plain, len(l))
	for row := range l {
		c[row] = append(c[row], l[row]...)
	}
	return c
}

func (l plain) slots() []int {
	var ids []int
	for _, row := range l {
		for _, x := range row {
			ids = append(ids, x.id)
		}
	}
	return ids
}

// shelf is a pool that nobody but its tables holds anything of, and what each table must have.
type shelf struct {
	pool   *pool.Pool
	slots  int
	tables []*Table
	lists  []plain
}

// shelfOf makes a shelf of free slots, without tables.
func shelfOf(t *testing.T, slots int) *shelf {
	t.Helper()
	p, e := pool.New(slots)
	if e != api.OK {
		t.Fatalf("a pool of %d: %d", slots, e)
	}
	return &shelf{pool: p, slots: slots}
}

// table makes one more table of a shelf, and tells its number.
func (s *shelf) table(t *testing.T, rows int) int {
	t.Helper()
	b, e := New(s.pool, rows)
	if b == nil || e != api.OK {
		t.Fatalf("New of %d: %d", rows, e)
	}
	s.tables = append(s.tables, b)
	s.lists = append(s.lists, make(plain, rows))
	s.check(t)
	return len(s.tables) - 1
}

// counts is how often entries of all tables point at each slot.
func (s *shelf) counts() []int {
	counts := make([]int, s.slots)
	for _, l := range s.lists {
		for _, id := range l.slots() {
			counts[id]++
		}
	}
	return counts
}

// put adds to a table's lists: the slot is the least one that no entry points at.
func (s *shelf) put(table, row int, x *page.Page) api.Errno {
	l := s.lists[table]
	if row < 0 || row >= len(l) {
		return api.ErrRange
	}
	id := slices.Index(s.counts(), 0)
	if id < 0 {
		return api.ErrFull
	}
	l[row] = append(l[row], entry{id, x})
	return api.OK
}

// add adds a page to a table and to its lists alike.
func (s *shelf) add(t *testing.T, table, row int, x *page.Page) api.Errno {
	t.Helper()
	e, f := s.tables[table].Add(row, x), s.put(table, row, x)
	if e != f {
		t.Fatalf("table %d: Add(%d): %d, not %d", table, row, e, f)
	}
	s.check(t)
	return e
}

// addAll adds a new page to each of these rows.
func (s *shelf) addAll(t *testing.T, table int, rows ...int) {
	t.Helper()
	for i, row := range rows {
		if e := s.add(t, table, row, made(t, 100*table+i)); e != api.OK {
			t.Fatalf("table %d: Add(%d): %d", table, row, e)
		}
	}
}

// fork forks a table and its lists, and tells the fork's number.
func (s *shelf) fork(t *testing.T, table int) int {
	t.Helper()
	was := s.counts()
	s.tables = append(s.tables, s.forked(t, table))
	s.lists = append(s.lists, s.lists[table].copied())
	for _, id := range s.lists[table].slots() {
		if s.pool.Refs(id) != was[id]+1 {
			t.Fatalf("table %d: behind Fork slot %d is held %d times, ahead of it %d", table, id, s.pool.Refs(id), was[id])
		}
	}
	s.check(t)
	return len(s.tables) - 1
}

func (s *shelf) forked(t *testing.T, table int) *Table {
	t.Helper()
	b := s.tables[table].Fork()
	if b == nil || b == s.tables[table] {
		t.Fatalf("table %d: Fork is no other table", table)
	}
	return b
}

// clear clears a table and its lists.
func (s *shelf) clear(t *testing.T, table int) {
	t.Helper()
	s.tables[table].Clear()
	clear(s.lists[table])
	s.check(t)
}

// clearAll clears all tables: nothing of the pool is held then.
func (s *shelf) clearAll(t *testing.T) {
	t.Helper()
	for table := range s.tables {
		s.clear(t, table)
	}
	if s.pool.Free() != s.slots || len(s.pool.Used()) != 0 {
		t.Fatalf("all are cleared: Free %d of %d, Used %v", s.pool.Free(), s.slots, s.pool.Used())
	}
}

// check asks of a pool and its tables all that they must tell, if they are as the lists.
func (s *shelf) check(t *testing.T) {
	t.Helper()
	free := 0
	for id, n := range s.counts() {
		if s.pool.Refs(id) != n {
			t.Fatalf("slot %d is held %d times, not %d", id, s.pool.Refs(id), n)
		}
		if n == 0 {
			free++
		}
	}
	if s.pool.Free() != free || s.pool.Slots() != s.slots {
		t.Fatalf("Free %d of %d, not %d of %d", s.pool.Free(), s.pool.Slots(), free, s.slots)
	}
	for i, b := range s.tables {
		checkTable(t, i, b, s.lists[i])
	}
}

// checkTable asks what a table tells.
func checkTable(t *testing.T, i int, b *Table, l plain) {
	t.Helper()
	if b.Rows() != len(l) || !slices.Equal(b.Slots(), l.slots()) {
		t.Fatalf("table %d: Rows %d, Slots %v, not %d, %v", i, b.Rows(), b.Slots(), len(l), l.slots())
	}
	for row := range l {
		if b.Len(row) != len(l[row]) {
			t.Fatalf("table %d: Len(%d): %d, not %d", i, row, b.Len(row), len(l[row]))
		}
		for at, x := range l[row] {
			if got, e := b.At(row, at); got != x.page || e != api.OK {
				t.Fatalf("table %d: At(%d, %d): %p, %d, not %p", i, row, at, got, e, x.page)
			}
		}
		for _, at := range outside(len(l[row])) {
			checkNone(t, i, b, row, at)
		}
	}
	for _, row := range outside(len(l)) {
		if b.Len(row) != 0 {
			t.Fatalf("table %d: Len(%d): %d", i, row, b.Len(row))
		}
		for _, at := range []int{0, 1, -1, row, far, deep} {
			checkNone(t, i, b, row, at)
		}
	}
}

// checkNone asks that a table has no such entry.
func checkNone(t *testing.T, i int, b *Table, row, at int) {
	if x, e := b.At(row, at); x != nil || e != api.ErrRange {
		t.Helper()
		t.Fatalf("table %d: At(%d, %d): %p, %d", i, row, at, x, e)
	}
}

// outside are numbers that nothing of a list of so many has.
func outside(n int) []int {
	return []int{deep, deep + 1, -1 << 32, -n - 1, -2, -1, n, n + 1, n + most + 1, 1 << 31, 1 << 32, 1<<32 + 1, far - 1, far}
}

// made makes a page that differs from those of other numbers.
func made(t *testing.T, i int) *page.Page {
	t.Helper()
	x, e := page.Quantize(page.Head{KeyBits: 2, ValueBits: 4, Tokens: 1, Dim: 1, Index: i}, [][]int32{{int32(i)}}, [][]int32{{-int32(i)}})
	if e != api.OK {
		t.Fatalf("a page of %d: %d", i, e)
	}
	return x
}

// P11.1: how many rows a table may have.
func TestNew(t *testing.T) {
	p, _ := pool.New(2)
	for _, rows := range []int{deep, deep + 1, deep + 5, -1 << 32, 5 - 1<<32, -most, -2, -1, most + 1, most + 2, 2 * most, 1 << 31, 1 << 32, 1<<32 + 5, far - 1, far} {
		if b, e := New(p, rows); b != nil || e != api.ErrRange {
			t.Errorf("New of %d: %p, %d", rows, b, e)
		}
	}
	if p.Free() != 2 {
		t.Errorf("Free: %d", p.Free())
	}
	if most != 16 {
		t.Errorf("most rows: %d", most)
	}
	for rows := range most + 1 {
		s := shelfOf(t, 2*most)
		b := s.table(t, rows)
		for row := range rows {
			s.addAll(t, b, row)
		}
		for row := rows - 1; row >= 0; row-- {
			s.addAll(t, b, row)
		}
		s.clearAll(t)
	}
}

// P11.1, P11.2: a table without rows has nothing, and takes nothing.
func TestNoRows(t *testing.T) {
	for _, slots := range []int{0, 3} {
		s := shelfOf(t, slots)
		b := s.table(t, 0)
		f := s.fork(t, b)
		for _, table := range []int{b, f} {
			for _, row := range append(outside(0), 0) {
				if e := s.add(t, table, row, made(t, 1)); e != api.ErrRange {
					t.Errorf("Add(%d): %d", row, e)
				}
			}
			if ids := s.tables[table].Slots(); len(ids) != 0 {
				t.Errorf("Slots: %v", ids)
			}
			s.clear(t, table)
		}
		s.clearAll(t)
	}
}

// P11.1: a row that isn't there takes no page, and no slot, whether the pool has room or not.
func TestAddNoRow(t *testing.T) {
	for _, slots := range []int{0, 2, 3, 9} {
		s := shelfOf(t, slots)
		b := s.table(t, 3)
		for i := range min(slots, 3) {
			s.addAll(t, b, i)
		}
		for _, row := range outside(3) {
			for range 2 {
				if e := s.add(t, b, row, made(t, 9)); e != api.ErrRange {
					t.Errorf("Add(%d) where %d are free: %d", row, s.pool.Free(), e)
				}
			}
		}
	}
}

// P11.1: a pool that is full, or without slots, refuses; one slot that is free again is enough.
func TestAddFull(t *testing.T) {
	for _, slots := range []int{0, 1, 2, 5, 20} {
		s := shelfOf(t, slots)
		b, c := s.table(t, 2), s.table(t, 1)
		for i := range slots - 1 {
			s.addAll(t, b, i%2)
		}
		if slots > 0 {
			s.addAll(t, c, 0)
		}
		for range 3 {
			for row := range 2 {
				if e := s.add(t, b, row, made(t, 9)); e != api.ErrFull {
					t.Errorf("Add(%d) of %d slots: %d", row, slots, e)
				}
			}
		}
		s.clear(t, c)
		if slots > 0 {
			s.addAll(t, b, 1)
		}
		if e := s.add(t, b, 0, made(t, 9)); e != api.ErrFull {
			t.Errorf("Add behind all %d slots: %d", slots, e)
		}
	}
}

// P11.1: as many entries as a pool may have slots, in one row and in several.
func TestAddMost(t *testing.T) {
	p, _ := pool.New(api.MaxPages)
	b, _ := New(p, most)
	x, y := made(t, 1), made(t, 2)
	const long = api.MaxPages - 300
	for i := range api.MaxPages {
		row, z := 3, x
		if i >= long {
			row, z = 5, y
		}
		if e := b.Add(row, z); e != api.OK {
			t.Fatalf("Add %d: %d", i, e)
		}
	}
	if e := b.Add(3, x); e != api.ErrFull || b.Len(3) != long || b.Len(5) != 300 || p.Free() != 0 {
		t.Errorf("Add: %d, Len %d and %d", e, b.Len(3), b.Len(5))
	}
	if got, e := b.At(3, long-1); got != x || e != api.OK {
		t.Errorf("At: %p, %d", got, e)
	}
	if got, e := b.At(5, 299); got != y || e != api.OK {
		t.Errorf("At: %p, %d", got, e)
	}
	f := b.Fork()
	if ids := f.Slots(); len(ids) != api.MaxPages || ids[0] != 0 || ids[api.MaxPages-1] != api.MaxPages-1 || !slices.IsSorted(ids) {
		t.Errorf("Slots: %d of them", len(ids))
	}
	b.Clear()
	if p.Free() != 0 || p.Refs(0) != 1 || p.Refs(api.MaxPages-1) != 1 {
		t.Errorf("Clear: Free %d", p.Free())
	}
	f.Clear()
	if p.Free() != api.MaxPages {
		t.Errorf("Clear: Free %d", p.Free())
	}
}

// P11.1: a row's entries are in the order in which they were added, whatever is added to others between.
func TestOrder(t *testing.T) {
	s := shelfOf(t, 40)
	b := s.table(t, 4)
	var rows [4][]*page.Page
	for i, row := range []int{2, 0, 2, 2, 3, 0, 2, 3, 3, 3, 0, 2, 0, 0, 3, 2} {
		x := made(t, i)
		s.add(t, b, row, x)
		rows[row] = append(rows[row], x)
	}
	for row := range rows {
		if n := s.tables[b].Len(row); n != len(rows[row]) {
			t.Fatalf("Len(%d): %d", row, n)
		}
		for i, x := range rows[row] {
			if got, e := s.tables[b].At(row, i); got != x || e != api.OK {
				t.Errorf("At(%d, %d): %d", row, i, e)
			}
		}
	}
	if ids := s.tables[b].Slots(); !slices.Equal(ids, []int{1, 5, 10, 12, 13, 0, 2, 3, 6, 11, 15, 4, 7, 8, 9, 14}) {
		t.Errorf("Slots: %v", ids)
	}
}

// P11.1: At tells the very page that was added, as it was, also where another one means the same, or it was added twice.
func TestAt(t *testing.T) {
	s := shelfOf(t, 6)
	b := s.table(t, 2)
	x, y := made(t, 7), made(t, 7)
	was := x.Bytes()
	for _, z := range []*page.Page{x, y, x} {
		s.add(t, b, 1, z)
	}
	s.add(t, b, 0, x)
	for i, z := range []*page.Page{x, y, x} {
		got, e := s.tables[b].At(1, i)
		if got != z || e != api.OK || !bytes.Equal(got.Bytes(), was) {
			t.Errorf("At(1, %d): %p, %d, not %p", i, got, e, z)
		}
	}
	if ids := s.tables[b].Slots(); !slices.Equal(ids, []int{3, 0, 1, 2}) {
		t.Errorf("Slots: %v", ids)
	}
	f := s.fork(t, b)
	s.clear(t, b)
	if got, e := s.tables[f].At(1, 2); got != x || e != api.OK || !bytes.Equal(got.Bytes(), was) {
		t.Errorf("At of a fork: %p, %d, not %p", got, e, x)
	}
	s.clearAll(t)
	if !bytes.Equal(x.Bytes(), was) {
		t.Errorf("the page changed")
	}
}

// P11.2: slots row by row, with empty rows ahead of others, between and behind them.
func TestSlots(t *testing.T) {
	for mask := range 1 << 5 {
		s := shelfOf(t, 20)
		b := s.table(t, 5)
		// From the last row to the first one, so that the slots' numbers fall from row to row.
		for row := 4; row >= 0; row-- {
			for range mask >> row & 1 * (row + 1) {
				s.addAll(t, b, row)
			}
		}
		f := s.fork(t, b)
		s.addAll(t, f, 2)
		s.clearAll(t)
	}
	s := shelfOf(t, 5)
	b := s.table(t, 6)
	s.addAll(t, b, 4, 1, 4, 1, 4)
	if ids := s.tables[b].Slots(); !slices.Equal(ids, []int{1, 3, 0, 2, 4}) {
		t.Errorf("Slots: %v", ids)
	}
}

// P11.2: what Slots tells is new memory, its spare room too, whichever rows have entries, and be there only one.
func TestSlotsMemory(t *testing.T) {
	for _, rows := range [][]int{{0}, {0, 0, 0}, {1, 0, 1}, {2, 2, 2, 2, 2}} {
		for n := slices.Max(rows) + 1; n <= 4; n++ {
			s := shelfOf(t, 20)
			b := s.table(t, n)
			s.addAll(t, b, rows...)
			first, second := s.tables[b].Slots(), s.tables[b].Slots()
			was := slices.Clone(second)
			for i := range first[:cap(first)] {
				first[:cap(first)][i] = -7
			}
			s.check(t)
			f := s.fork(t, b)
			s.addAll(t, b, 0, n-1)
			s.addAll(t, f, n-1, 0)
			s.clearAll(t)
			s.addAll(t, b, 0, 0, n-1)
			if !slices.Equal(second, was) {
				t.Errorf("another answer, or the table, changed an answer: %v, not %v", second, was)
			}
		}
	}
}

// P11.2: forks of an empty table, of one with several rows, and of forks.
func TestFork(t *testing.T) {
	for _, rows := range [][]int{{}, {0}, {2}, {0, 0, 0}, {1, 2, 0, 1, 1}, {0, 1, 2, 2, 1, 0}} {
		s := shelfOf(t, 30)
		b := s.table(t, 3)
		s.addAll(t, b, rows...)
		f := s.fork(t, b)
		g := s.fork(t, f)
		h := s.fork(t, b)
		for _, id := range s.tables[b].Slots() {
			if s.pool.Refs(id) != 4 {
				t.Errorf("slot %d: %d", id, s.pool.Refs(id))
			}
		}
		for _, table := range []int{g, b, h, f, b} {
			s.addAll(t, table, 1, 0)
		}
		k := s.fork(t, g)
		for _, table := range []int{f, k, b, g, h} {
			s.clear(t, table)
		}
		if s.pool.Free() != 30 {
			t.Errorf("Free: %d", s.pool.Free())
		}
	}
}

// P11.2: what is added to a table or its fork leaves the other one, however long their rows are, and whichever goes on first.
func TestForkAdd(t *testing.T) {
	for n := range 20 {
		for first := range 2 {
			s := shelfOf(t, 60)
			b := s.table(t, 2)
			for i := range n {
				s.addAll(t, b, i%3%2)
			}
			two := []int{b, s.fork(t, b)}
			for i := range 6 {
				s.addAll(t, two[(first+i)%2], 0, 1)
			}
			if s.tables[two[0]].Len(0) != s.tables[two[1]].Len(0) || s.pool.Free() != 60-n-12 {
				t.Errorf("Len %d and %d, Free %d", s.tables[two[0]].Len(0), s.tables[two[1]].Len(0), s.pool.Free())
			}
			s.clear(t, two[first])
			s.addAll(t, two[first], 1, 0, 1)
			s.addAll(t, two[1-first], 0, 1)
			s.clearAll(t)
		}
	}
}

// P11.2: a fork is over its table's pool: where that is full, the fork can't add.
func TestForkFull(t *testing.T) {
	s := shelfOf(t, 3)
	b := s.table(t, 2)
	s.addAll(t, b, 0, 1, 0)
	f := s.fork(t, b)
	for _, table := range []int{b, f} {
		if e := s.add(t, table, 1, made(t, 9)); e != api.ErrFull {
			t.Errorf("Add: %d", e)
		}
		if e := s.add(t, table, 2, made(t, 9)); e != api.ErrRange {
			t.Errorf("Add: %d", e)
		}
	}
	s.clear(t, b)
	if e := s.add(t, b, 1, made(t, 9)); e != api.ErrFull || s.pool.Free() != 0 {
		t.Errorf("Add, while the fork holds all: %d", e)
	}
	s.clear(t, f)
	s.addAll(t, b, 1, 1, 1)
}

// P11.2: Clear of a table ahead of its fork, of the fork first, of an empty one, and twice; then all is as if new.
func TestClear(t *testing.T) {
	for first := range 2 {
		s := shelfOf(t, 8)
		b := s.table(t, 3)
		s.clear(t, b)
		s.addAll(t, b, 2, 0, 2)
		two := []int{b, s.fork(t, b)}
		s.addAll(t, two[1], 0)
		s.addAll(t, two[0], 1)
		for range 2 {
			s.clear(t, two[first])
			if s.pool.Free() != 4 || len(s.tables[two[first]].Slots()) != 0 || s.tables[two[first]].Rows() != 3 {
				t.Errorf("Clear: Free %d, Slots %v", s.pool.Free(), s.tables[two[first]].Slots())
			}
		}
		s.addAll(t, two[first], 1, 1, 0)
		s.clear(t, two[1-first])
		s.clear(t, two[1-first])
		if s.pool.Free() != 5 {
			t.Errorf("Clear: Free %d", s.pool.Free())
		}
		s.addAll(t, two[1-first], 0, 0, 2, 1, 1)
		s.clearAll(t)
	}
}

// P11.2: a fork of a table that was cleared is empty.
func TestClearFork(t *testing.T) {
	s := shelfOf(t, 6)
	b := s.table(t, 2)
	s.addAll(t, b, 0, 1, 0)
	s.clear(t, b)
	f := s.fork(t, b)
	if s.pool.Free() != 6 || s.tables[f].Len(0) != 0 || s.tables[f].Rows() != 2 {
		t.Errorf("Fork: Free %d, Len %d", s.pool.Free(), s.tables[f].Len(0))
	}
	s.addAll(t, b, 0, 0)
	s.addAll(t, f, 0, 1)
	s.clearAll(t)
}

// P11.3: a slot that is free again is taken by the next Add, of whichever table, the least one first.
func TestFreeAgain(t *testing.T) {
	s := shelfOf(t, 6)
	a, b, c := s.table(t, 2), s.table(t, 1), s.table(t, 1)
	s.addAll(t, a, 0)
	s.addAll(t, b, 0)
	s.addAll(t, a, 1)
	s.addAll(t, c, 0)
	s.addAll(t, b, 0)
	s.addAll(t, c, 0)
	s.clear(t, b)
	s.addAll(t, c, 0)
	s.addAll(t, a, 0)
	if x, y := s.tables[c].Slots(), s.tables[a].Slots(); !slices.Equal(x, []int{3, 5, 1}) || !slices.Equal(y, []int{0, 4, 2}) {
		t.Errorf("Slots: %v and %v", x, y)
	}
	s.clear(t, a)
	s.addAll(t, b, 0, 0)
	f := s.fork(t, c)
	s.clear(t, c)
	s.addAll(t, f, 0)
	if x, y := s.tables[b].Slots(), s.tables[f].Slots(); !slices.Equal(x, []int{0, 2}) || !slices.Equal(y, []int{3, 5, 1, 4}) {
		t.Errorf("Slots: %v and %v", x, y)
	}
	s.clearAll(t)
}

// P11.2, P11.3: what somebody else holds stays held: a table holds and drops only as often as its entries point at it.
func TestOthers(t *testing.T) {
	p, _ := pool.New(4)
	x, y := made(t, 1), made(t, 2)
	own, _ := p.Put(x)
	b, _ := New(p, 2)
	b.Add(1, y)
	if ids := b.Slots(); own != 0 || !slices.Equal(ids, []int{1}) || p.Refs(0) != 1 || p.Refs(1) != 1 {
		t.Fatalf("Add: Slots %v", ids)
	}
	p.Hold(1)
	f := b.Fork()
	if p.Refs(0) != 1 || p.Refs(1) != 3 {
		t.Errorf("Fork: %d, %d", p.Refs(0), p.Refs(1))
	}
	b.Clear()
	f.Clear()
	f.Clear()
	if got, e := p.Get(1); got != y || e != api.OK || p.Refs(0) != 1 || p.Refs(1) != 1 || p.Free() != 2 {
		t.Errorf("Clear: %d, %d, Free %d", p.Refs(0), p.Refs(1), p.Free())
	}
	if p.Drop(1) != api.OK || p.Drop(0) != api.OK || p.Free() != 4 {
		t.Errorf("Free: %d", p.Free())
	}
}

// P11.3: tables over one pool share its slots alone.
func TestTwoTables(t *testing.T) {
	s := shelfOf(t, 7)
	a, b := s.table(t, 2), s.table(t, 3)
	s.addAll(t, a, 0, 1)
	s.addAll(t, b, 2, 0)
	s.addAll(t, a, 0)
	s.addAll(t, b, 0, 1)
	if x, y := s.tables[a].Slots(), s.tables[b].Slots(); !slices.Equal(x, []int{0, 4, 1}) || !slices.Equal(y, []int{3, 5, 6, 2}) {
		t.Errorf("Slots: %v and %v", x, y)
	}
	if e := s.add(t, a, 0, made(t, 9)); e != api.ErrFull {
		t.Errorf("Add: %d", e)
	}
	s.clear(t, b)
	s.addAll(t, a, 1, 1, 0, 0)
	if e := s.add(t, b, 0, made(t, 9)); e != api.ErrFull {
		t.Errorf("Add: %d", e)
	}
	s.clearAll(t)
}

// P11.3: tables over two pools play no part in one another, also when they have the same page.
func TestTwoPools(t *testing.T) {
	s, r := shelfOf(t, 3), shelfOf(t, 2)
	a, b := s.table(t, 2), r.table(t, 2)
	x := made(t, 5)
	both := func() {
		t.Helper()
		s.check(t)
		r.check(t)
	}
	r.add(t, b, 1, x)
	both()
	s.addAll(t, a, 0)
	s.add(t, a, 0, x)
	both()
	f := r.fork(t, b)
	r.addAll(t, f, 0)
	both()
	if e := r.add(t, b, 0, x); e != api.ErrFull {
		t.Errorf("Add: %d", e)
	}
	s.addAll(t, a, 1)
	both()
	s.clear(t, a)
	both()
	if got, e := r.tables[f].At(1, 0); got != x || e != api.OK || s.pool.Free() != 3 || r.pool.Free() != 0 {
		t.Errorf("At: %p, %d", got, e)
	}
	r.clearAll(t)
	both()
}

// Nothing is kept of entries that were cleared.
func TestKept(t *testing.T) {
	s := shelfOf(t, 6)
	b := s.table(t, 3)
	s.addAll(t, b, 0, 2, 2, 0, 0)
	s.clear(t, b)
	for row, ids := range s.tables[b].rows {
		if cap(ids) != 0 {
			t.Errorf("row %d keeps room for %d", row, cap(ids))
		}
	}
}

// P11.1, P11.2, P11.3: a long row of calls on several tables and their forks, held against plain lists.
func TestLong(t *testing.T) {
	r := rand.New(rand.NewSource(11))
	pages := make([]*page.Page, 20)
	for i := range pages {
		pages[i] = made(t, i)
	}
	for _, slots := range []int{0, 1, 2, 5, 13, 40} {
		s := shelfOf(t, slots)
		for _, rows := range []int{2, 0, 1, 3, 5, most} {
			s.table(t, rows)
		}
		seen := map[api.Errno]int{}
		for step := range 6000 {
			table, other := r.Intn(len(s.tables)), r.Intn(len(s.tables))
			row := r.Intn(len(s.lists[table])+2) - 1
			if r.Intn(50) == 0 {
				wrong := outside(len(s.lists[table]))
				row = wrong[r.Intn(len(wrong))]
			}
			// Rows of calls that rather fill take turns with those that rather empty.
			switch kind := r.Intn(20); {
			case kind < 12+step/300%2*5:
				seen[s.add(t, table, row, pages[r.Intn(len(pages))])]++
			case kind == 17:
				s.renew(t, table, r.Intn(most+1))
			case kind == 18:
				s.clear(t, table)
			default:
				s.replace(t, table, other)
			}
			if step%500 == 499 {
				s.clearAll(t)
			}
		}
		if seen[api.ErrFull] == 0 || seen[api.ErrRange] == 0 || slots > 0 && seen[api.OK] == 0 {
			t.Errorf("of %d slots: %v", slots, seen)
		}
	}
}

// renew clears a table, and lets a new one take its place.
func (s *shelf) renew(t *testing.T, table, rows int) {
	t.Helper()
	s.clear(t, table)
	b, e := New(s.pool, rows)
	if e != api.OK {
		t.Fatalf("New of %d: %d", rows, e)
	}
	s.tables[table], s.lists[table] = b, make(plain, rows)
	s.check(t)
}

// replace clears a table, and lets a fork of another one take its place.
func (s *shelf) replace(t *testing.T, table, by int) {
	t.Helper()
	s.clear(t, table)
	s.tables[table], s.lists[table] = s.forked(t, by), s.lists[by].copied()
	s.check(t)
}

// The chapter's example.
func TestExample(t *testing.T) {
	p, _ := pool.New(1)
	a, e := New(p, 1)
	if e != api.OK || a.Add(0, made(t, 3)) != api.OK || p.Refs(0) != 1 {
		t.Fatalf("New, Add: %d, held %d times", e, p.Refs(0))
	}
	b := a.Fork()
	if p.Refs(0) != 2 {
		t.Errorf("Fork: held %d times", p.Refs(0))
	}
	a.Clear()
	if p.Refs(0) != 1 || a.Len(0) != 0 || b.Len(0) != 1 {
		t.Errorf("Clear: held %d times", p.Refs(0))
	}
}
