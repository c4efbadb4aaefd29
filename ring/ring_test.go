package ring

import (
	"math"
	"math/rand"
	"slices"
	"strconv"
	"testing"

	"credenza/api"
)

const (
	far  = math.MaxInt
	deep = math.MinInt
)

// sizes are those that a ring goes round at in few steps, and greater ones.
var sizes = []int{0, 1, 2, 3, 4, 5, 7, 8, 16, 33, api.MaxLength}

// pair is a ring, and what it must have, as a plain list.
type pair[T comparable] struct {
	ring *Ring[T]
	size int
	list []T
}

// pairOf makes a ring without things.
func pairOf[T comparable](t *testing.T, size int) *pair[T] {
	t.Helper()
	r, e := New[T](size)
	if r == nil || e != api.OK {
		t.Fatalf("New(%d): %p, %d", size, r, e)
	}
	p := &pair[T]{ring: r, size: size}
	p.check(t)
	return p
}

// round makes a ring of numbers whose oldest thing is at a place, and that has so many things.
func round(t *testing.T, size, first, count int) *pair[int] {
	t.Helper()
	p := pairOf[int](t, size)
	for i := range first {
		p.push(t, -i-1)
		p.shift(t, 1)
	}
	for i := range count {
		p.push(t, 100+i)
	}
	return p
}

// rounds goes through rings of sizes from 1 to most, with oldest things at all places, of all lengths.
func rounds(t *testing.T, most int, do func(p *pair[int])) {
	t.Helper()
	for size := 1; size <= most; size++ {
		for first := range size {
			for count := range size + 1 {
				do(round(t, size, first, count))
			}
		}
	}
}

func (p *pair[T]) push(t *testing.T, x T) api.Errno {
	want := api.ErrFull
	if len(p.list) < p.size {
		want = api.OK
		p.list = append(p.list, x)
	}
	if e := p.ring.Push(x); e != want {
		t.Helper()
		t.Fatalf("size %d: Push(%v): %d, not %d", p.size, x, e, want)
	}
	p.check(t)
	return want
}

func (p *pair[T]) shift(t *testing.T, n int) []T {
	var want []T
	if n >= 1 && n <= len(p.list) {
		want = slices.Clone(p.list[:n])
		p.list = slices.Clone(p.list[n:])
	}
	got := p.ring.Shift(n)
	if !slices.Equal(got, want) {
		t.Helper()
		t.Fatalf("size %d: Shift(%d): %v, not %v", p.size, n, got, want)
	}
	p.check(t)
	return got
}

func (p *pair[T]) cut(t *testing.T, n int) bool {
	want := n >= 0 && n <= len(p.list)
	if want {
		p.list = slices.Clone(p.list[:n])
	}
	if ok := p.ring.Cut(n); ok != want {
		t.Helper()
		t.Fatalf("size %d: Cut(%d): %v, not %v", p.size, n, ok, want)
	}
	p.check(t)
	return want
}

func (p *pair[T]) copied(t *testing.T) *pair[T] {
	r := p.ring.Copy()
	if r == nil || r == p.ring {
		t.Helper()
		t.Fatalf("size %d: Copy is no other ring", p.size)
	}
	c := &pair[T]{ring: r, size: p.size, list: slices.Clone(p.list)}
	c.check(t)
	p.check(t)
	return c
}

// check asks of a ring all that it must tell, if it is as the list.
func (p *pair[T]) check(t *testing.T) {
	if p.ring.Size() != p.size || p.ring.Len() != len(p.list) {
		t.Helper()
		t.Fatalf("Size %d, Len %d, not %d, %d", p.ring.Size(), p.ring.Len(), p.size, len(p.list))
	}
	for i, want := range p.list {
		if x, ok := p.ring.At(i); x != want || !ok {
			t.Helper()
			t.Fatalf("size %d: At(%d): %v, %v, not %v", p.size, i, x, ok, want)
		}
	}
	var none T
	for _, i := range outside(len(p.list)) {
		if x, ok := p.ring.At(i); x != none || ok {
			t.Helper()
			t.Fatalf("size %d: At(%d): %v, %v", p.size, i, x, ok)
		}
	}
	p.checkAll(t)
}

// checkAll ranges over the things, and holds their numbers and themselves against the list.
func (p *pair[T]) checkAll(t *testing.T) {
	var things []T
	for i, x := range p.ring.All() {
		if i != len(things) {
			t.Helper()
			t.Fatalf("size %d: All tells %d where %d is due", p.size, i, len(things))
		}
		things = append(things, x)
	}
	if !slices.Equal(things, p.list) {
		t.Helper()
		t.Fatalf("size %d: All: %v, not %v", p.size, things, p.list)
	}
}

// outside are numbers that nothing of a list of so many has.
func outside(n int) []int {
	return []int{deep, deep + 1, -1 << 32, -api.MaxLength, -n - 1, -2, -1, n, n + 1, 2*n + 1, n + api.MaxLength, 1 << 31, 1 << 32, 1<<32 + 1, far - 1, far}
}

// beyond are numbers that no part of a list of so many has: below 0, and above n.
func beyond(n int) []int { return outside(n + 1) }

// P12.1: how great a ring may be, of things of any type.
func TestNew(t *testing.T) {
	for _, size := range []int{deep, deep + 1, 3 - 1<<32, -1 << 32, -api.MaxLength, -2, -1, api.MaxLength + 1, api.MaxLength + 2, 2 * api.MaxLength, 1 << 31, 1 << 32, 1<<32 + 3, far - 1, far} {
		if r, e := New[int](size); r != nil || e != api.ErrRange {
			t.Errorf("New(%d) of numbers: %p, %d", size, r, e)
		}
		if r, e := New[*string](size); r != nil || e != api.ErrRange {
			t.Errorf("New(%d) of pointers: %p, %d", size, r, e)
		}
		if r, e := New[struct{}](size); r != nil || e != api.ErrRange {
			t.Errorf("New(%d) of nothing: %p, %d", size, r, e)
		}
	}
	if api.MaxLength != 1024 {
		t.Errorf("MaxLength: %d", api.MaxLength)
	}
	for _, size := range sizes {
		p, q := pairOf[int](t, size), pairOf[int](t, size)
		if size > 0 {
			p.push(t, 5)
			q.check(t)
		}
	}
}

// P12.1, P12.2: a ring of size 0 has nothing, and takes nothing.
func TestNothing(t *testing.T) {
	p := pairOf[string](t, 0)
	for range 2 {
		if e := p.push(t, "a"); e != api.ErrFull {
			t.Errorf("Push: %d", e)
		}
		for _, n := range append(outside(0), 0, 1) {
			if l := p.shift(t, n); len(l) != 0 {
				t.Errorf("Shift(%d): %v", n, l)
			}
			if ok := p.cut(t, n); ok != (n == 0) {
				t.Errorf("Cut(%d): %v", n, ok)
			}
			if x, ok := p.ring.At(n); x != "" || ok {
				t.Errorf("At(%d): %q, %v", n, x, ok)
			}
		}
		for i, x := range p.ring.All() {
			t.Errorf("All: %d, %q", i, x)
		}
		c := p.copied(t)
		if e := c.push(t, "b"); e != api.ErrFull || c.ring.Size() != 0 || c.ring.Len() != 0 {
			t.Errorf("Push into a copy: %d", e)
		}
		p = c.copied(t)
	}
}

// P12.1: into a ring that is full nothing is pushed, and it stays as it is; behind a Shift or a Cut there is room again.
func TestPushFull(t *testing.T) {
	for _, size := range sizes {
		p := pairOf[int](t, size)
		for i := range size {
			if e := p.push(t, i); e != api.OK {
				t.Fatalf("size %d: Push(%d): %d", size, i, e)
			}
		}
		for i := range 3 {
			if e := p.push(t, -1-i); e != api.ErrFull {
				t.Errorf("size %d: Push: %d", size, e)
			}
		}
		if size == 0 {
			continue
		}
		p.shift(t, 1)
		if e, f := p.push(t, 70), p.push(t, 71); e != api.OK || f != api.ErrFull {
			t.Errorf("size %d: Push behind a Shift: %d, %d", size, e, f)
		}
		p.cut(t, size-1)
		if e, f := p.push(t, 80), p.push(t, 81); e != api.OK || f != api.ErrFull {
			t.Errorf("size %d: Push behind a Cut: %d, %d", size, e, f)
		}
		if x, ok := p.ring.At(size - 1); x != 80 || !ok {
			t.Errorf("size %d: the newest is %d", size, x)
		}
	}
}

// P12.1: behind a Shift the ring goes round, more than once, whatever is shifted at a time.
func TestRound(t *testing.T) {
	for _, size := range []int{1, 2, 3, 4, 5, 8, 13} {
		for n := 1; n <= size; n++ {
			for stay := 0; stay+n <= size; stay++ {
				p := pairOf[int](t, size)
				next := 0
				for range stay {
					p.push(t, next)
					next++
				}
				for range 4*size + 1 {
					for range n {
						p.push(t, next)
						next++
					}
					if l := p.shift(t, n); len(l) != n || l[n-1] != next-1-stay {
						t.Fatalf("size %d: Shift(%d): %v", size, n, l)
					}
				}
			}
		}
	}
	for _, size := range []int{100, api.MaxLength} {
		p := pairOf[int](t, size)
		for next := range 5 * size / 2 {
			// One check for each row of numbers is enough: the ring is long.
			if len(p.list) == size {
				p.shift(t, 1+next%size)
			}
			if e := p.ring.Push(next); e != api.OK {
				t.Fatalf("size %d: Push(%d): %d", size, next, e)
			}
			p.list = append(p.list, next)
		}
		p.check(t)
	}
}

// P12.1: Shift of none, of some, of all and of more, from wherever the oldest one is.
func TestShift(t *testing.T) {
	rounds(t, 5, func(p *pair[int]) {
		for n := 1; n <= len(p.list); n++ {
			c := p.copied(t)
			c.shift(t, n)
			for c.push(t, 7) == api.OK {
			}
			c.shift(t, c.size)
			c.push(t, 8)
		}
		for _, n := range append(beyond(len(p.list)), 0) {
			if l := p.shift(t, n); len(l) != 0 {
				t.Errorf("Shift(%d) of %d: %v", n, len(p.list), l)
			}
		}
	})
	p := round(t, api.MaxLength, 1000, api.MaxLength)
	if l := p.shift(t, api.MaxLength+1); len(l) != 0 {
		t.Errorf("Shift: %v", l)
	}
	if l := p.shift(t, api.MaxLength); len(l) != api.MaxLength || l[0] != 100 || l[1023] != 1123 {
		t.Errorf("Shift: %v", l)
	}
}

// P12.1: what Shift tells is new memory, its spare room too: neither it nor what is pushed later changes the other.
func TestShiftMemory(t *testing.T) {
	rounds(t, 4, func(p *pair[int]) {
		for n := 1; n <= len(p.list); n++ {
			c := p.copied(t)
			kept := p.list[:n]
			first := c.shift(t, n)
			for c.push(t, 7) == api.OK {
			}
			if !slices.Equal(first, kept) {
				t.Errorf("Shift(%d): %v, not %v, behind a Push", n, first, kept)
			}
			fill(first, -9)
			c.check(t)
			second := c.shift(t, c.size)
			fill(first, -8)
			if slices.Contains(second, -8) || slices.Contains(second, -9) {
				t.Errorf("two answers share memory: %v", second)
			}
			fill(second, -7)
			c.push(t, 5)
			p.check(t)
		}
	})
}

// fill changes a list, its spare room too.
func fill(l []int, x int) {
	for i := range l[:cap(l)] {
		l[:cap(l)][i] = x
	}
}

// P12.1: Cut to none, to some, to all and to more, from wherever the oldest one is; pushed is behind those that stay.
func TestCut(t *testing.T) {
	rounds(t, 5, func(p *pair[int]) {
		for n := range len(p.list) + 1 {
			c := p.copied(t)
			if !c.cut(t, n) || c.ring.Len() != n {
				t.Errorf("Cut(%d): Len %d", n, c.ring.Len())
			}
			for c.push(t, 7) == api.OK {
			}
			c.cut(t, c.size-1)
			c.push(t, 8)
			c.shift(t, 1)
			c.push(t, 9)
			c.cut(t, 0)
			c.push(t, 10)
		}
		for _, n := range beyond(len(p.list)) {
			if p.cut(t, n) {
				t.Errorf("Cut(%d) of %d", n, len(p.list))
			}
		}
	})
	p := round(t, api.MaxLength, 700, api.MaxLength)
	if p.cut(t, api.MaxLength+1) || !p.cut(t, api.MaxLength) || !p.cut(t, 500) || p.cut(t, 501) || !p.cut(t, 0) {
		t.Errorf("Cut: Len %d", p.ring.Len())
	}
}

// P12.2: a thing by its number, from the oldest one on; the zero value where there is none, though one was there.
func TestAt(t *testing.T) {
	rounds(t, 5, func(p *pair[int]) {
		for i := range p.list {
			if x, ok := p.ring.At(i); x != 100+i || !ok {
				t.Errorf("At(%d): %d, %v", i, x, ok)
			}
		}
		for _, i := range outside(len(p.list)) {
			if x, ok := p.ring.At(i); x != 0 || ok {
				t.Errorf("At(%d) of %d: %d, %v", i, len(p.list), x, ok)
			}
		}
		full := p.ring.Len() == p.size
		p.cut(t, len(p.list)/2)
		if x, ok := p.ring.At(p.size - 1); full && (x != 0 || ok) {
			t.Errorf("At of what was cut: %d, %v", x, ok)
		}
		p.shift(t, len(p.list))
		if x, ok := p.ring.At(0); x != 0 || ok {
			t.Errorf("At of what was shifted: %d, %v", x, ok)
		}
	})
}

// P12.2: All is ended wherever it is asked no further, and asked again it tells all from the oldest one on.
func TestAll(t *testing.T) {
	rounds(t, 5, func(p *pair[int]) {
		all := p.ring.All()
		for range 2 {
			for end := range p.size + 1 {
				var things []int
				for i, x := range all {
					if i != len(things) {
						t.Errorf("All tells %d where %d is due", i, len(things))
					}
					things = append(things, x)
					if i == end {
						break
					}
				}
				if want := p.list[:min(end+1, len(p.list))]; !slices.Equal(things, want) {
					t.Errorf("All, ended at %d: %v, not %v", end, things, want)
				}
			}
		}
	})
}

// P12.2: All asks no further where it is told to end, and ends by itself behind the last one.
func TestAllAsks(t *testing.T) {
	rounds(t, 4, func(p *pair[int]) {
		for end := 1; end <= p.size+1; end++ {
			asked := 0
			p.ring.All()(func(int, int) bool {
				asked++
				return asked != end
			})
			if asked != min(end, len(p.list)) {
				t.Errorf("All of %d, ended behind %d: asked %d times", len(p.list), end, asked)
			}
		}
	})
}

// P12.2, and the rule of what is ranged over: All is told as the ring is when the loop runs, and loops may be within loops.
func TestAllLater(t *testing.T) {
	p := pairOf[int](t, 2)
	all := p.ring.All()
	told := func() []int {
		var things []int
		for i, x := range all {
			things = append(things, i, x)
		}
		return things
	}
	if l := told(); len(l) != 0 {
		t.Errorf("All: %v", l)
	}
	p.push(t, 5)
	p.push(t, 6)
	if l := told(); !slices.Equal(l, []int{0, 5, 1, 6}) {
		t.Errorf("All behind a Push: %v", l)
	}
	p.shift(t, 1)
	p.push(t, 7)
	if l := told(); !slices.Equal(l, []int{0, 6, 1, 7}) {
		t.Errorf("All behind a Shift: %v", l)
	}
	var both []int
	for _, x := range all {
		for _, y := range all {
			both = append(both, 10*x+y)
		}
	}
	if !slices.Equal(both, []int{66, 67, 76, 77}) {
		t.Errorf("All within All: %v", both)
	}
	p.cut(t, 1)
	if l := told(); !slices.Equal(l, []int{0, 6}) {
		t.Errorf("All behind a Cut: %v", l)
	}
}

// P12.2: a copy has the same size and things; what is done to one of both leaves the other one.
func TestCopy(t *testing.T) {
	rounds(t, 5, func(p *pair[int]) {
		c := p.copied(t)
		d := c.copied(t)
		e := p.copied(t)
		all := []*pair[int]{p, c, d, e}
		for turn := range 3 * p.size {
			one := all[turn%4]
			switch turn % 3 {
			case 0:
				one.push(t, 1000+turn)
			case 1:
				one.shift(t, 1)
			default:
				one.cut(t, len(one.list)-1)
			}
			for _, x := range all {
				x.check(t)
			}
		}
		for i, x := range all {
			for x.push(t, 10*i) == api.OK {
			}
			x.copied(t).shift(t, x.size)
			x.shift(t, x.size)
			x.push(t, 10*i+1)
		}
		for _, x := range all {
			x.check(t)
		}
	})
	p := round(t, api.MaxLength, 900, api.MaxLength)
	c := p.copied(t)
	c.cut(t, 10)
	c.push(t, 3)
	p.shift(t, 1020)
	c.check(t)
}

// P12.2: the things of a copy are the same ones, not copies of them.
func TestCopyThings(t *testing.T) {
	p := pairOf[*int](t, 3)
	things := make([]*int, 5)
	for i := range things {
		things[i] = new(int)
		if i >= 3 {
			p.shift(t, 1)
		}
		p.push(t, things[i])
	}
	c := p.copied(t).copied(t)
	for i, x := range c.ring.All() {
		if x != things[i+2] {
			t.Errorf("thing %d is another one", i)
		}
	}
	*things[4] = 9
	if x, ok := c.ring.At(2); *x != 9 || !ok {
		t.Errorf("At(2): %d", *x)
	}
	r, _ := New[[]int](2)
	l := []int{1, 2}
	r.Push(l)
	l[0] = 7
	if x, _ := r.Copy().At(0); &x[0] != &l[0] || x[0] != 7 {
		t.Errorf("a list in a copy: %v", x)
	}
	if x := r.Shift(1); &x[0][0] != &l[0] {
		t.Errorf("a list that was shifted: %v", x)
	}
}

// run does a fixed row of calls on rings of several sizes with these things.
func run[T comparable](t *testing.T, things ...T) {
	t.Helper()
	for size := range 5 {
		p := pairOf[T](t, size)
		for i := range 4 * len(things) {
			if p.push(t, things[i%len(things)]) == api.ErrFull {
				p.shift(t, 1+i%3)
			}
			if i%5 == 4 {
				p.cut(t, len(p.list)-i%2)
			}
			p = p.copied(t)
		}
		p.shift(t, len(p.list))
	}
}

// P12.1, P12.2: rings of several types, with things that are zero values among others.
func TestTypes(t *testing.T) {
	type point struct {
		x, y int
		name string
	}
	a, b := new(point), new(point)
	run(t, 5, 0, -3, far, deep)
	run[uint8](t, 0, 255, 7)
	run(t, "a", "", "bc", "\x00\xff", "a")
	run(t, point{1, 2, "a"}, point{}, point{-1, 0, ""})
	run(t, a, nil, b, a)
	run(t, true, false, true, true)
	run(t, [2]string{"a", "b"}, [2]string{})
	run[any](t, 1, "1", nil, a, point{})
	run(t, struct{}{}, struct{}{}, struct{}{})
	run(t, api.OK, api.ErrFull, api.ErrRange)
}

// P12.2: beside false At tells T's zero value, of each type.
func TestZero(t *testing.T) {
	s, _ := New[string](2)
	s.Push("a")
	s.Push("b")
	s.Cut(1)
	s.Shift(1)
	q, _ := New[*int](1)
	q.Push(new(int))
	q.Shift(1)
	l, _ := New[[]string](1)
	l.Push([]string{"a"})
	l.Cut(0)
	for _, i := range []int{deep, -1, 0, 1, 2, far} {
		if x, ok := s.At(i); x != "" || ok {
			t.Errorf("At(%d): %q, %v", i, x, ok)
		}
		if x, ok := q.At(i); x != nil || ok {
			t.Errorf("At(%d): %p, %v", i, x, ok)
		}
		if x, ok := l.At(i); x != nil || ok {
			t.Errorf("At(%d): %v, %v", i, x, ok)
		}
	}
}

// Nothing is kept of things that were shifted or cut.
func TestKept(t *testing.T) {
	rounds(t, 4, func(p *pair[int]) {
		for n := range len(p.list) + 1 {
			c, d := p.copied(t), p.copied(t)
			c.shift(t, n)
			d.cut(t, n)
			for _, x := range []*pair[int]{c, d} {
				kept := slices.DeleteFunc(slices.Clone(x.ring.places), func(y int) bool { return y == 0 })
				slices.Sort(kept)
				if !slices.Equal(kept, x.list) || cap(x.ring.places) != x.size {
					t.Errorf("size %d: %v is kept of %v", x.size, x.ring.places, x.list)
				}
			}
		}
	})
}

// P12.1, P12.2: a long row of calls on rings of several sizes and their copies, held against plain lists.
func TestLong(t *testing.T) {
	r := rand.New(rand.NewSource(12))
	for _, size := range []int{0, 1, 2, 3, 5, 16, 64} {
		rings := make([]*pair[string], 4)
		for i := range rings {
			rings[i] = pairOf[string](t, size)
		}
		seen := map[string]int{}
		for step := range 20000 {
			p := rings[r.Intn(len(rings))]
			n := r.Intn(len(p.list)+3) - 1
			if r.Intn(40) == 0 {
				wrong := outside(len(p.list) + 1)
				n = wrong[r.Intn(len(wrong))]
			}
			// Rows of calls that rather fill take turns with those that rather empty.
			switch kind := r.Intn(40); {
			case kind < 20+step/300%2*15:
				seen["Push "+strconv.Itoa(int(p.push(t, strconv.Itoa(step))))]++
			case kind < 37:
				seen["Shift "+strconv.FormatBool(len(p.shift(t, n)) > 0)]++
			case kind == 37:
				seen["Cut "+strconv.FormatBool(p.cut(t, n))]++
			default:
				rings[r.Intn(len(rings))] = p.copied(t)
			}
			for _, other := range rings {
				if step%50 == 0 {
					other.check(t)
				}
			}
		}
		want := 4
		if size > 0 {
			want = 6
		}
		if len(seen) != want {
			t.Errorf("size %d: %v", size, seen)
		}
	}
}

// The chapter's example.
func TestExample(t *testing.T) {
	p := pairOf[int](t, 2)
	p.push(t, 1)
	p.push(t, 2)
	if l := p.shift(t, 1); !slices.Equal(l, []int{1}) {
		t.Errorf("Shift: %v", l)
	}
	p.push(t, 3)
	if !slices.Equal(p.list, []int{2, 3}) {
		t.Errorf("it has %v", p.list)
	}
	p.check(t)
}
