package cache

import (
	"bytes"
	"math"
	"math/rand"
	"slices"
	"testing"

	"credenza/api"
	"credenza/page"
	"credenza/pool"
	"credenza/tier"
)

const (
	far  = math.MaxInt
	deep = math.MinInt
)

// pair is a key and a value of a head.
type pair struct{ key, value []int32 }

// entry is the number of a slot, and a page that means the same as the one that must be there.
type entry struct {
	id   int
	page *page.Page
}

// plain is a cache as lists, by the chapter's words alone: of each layer and head all that was put, quantized or not, and the pages of what is.
type plain struct {
	shape Shape
	put   [][][]pair
	pages [][][]entry
}

func plainOf(s Shape) *plain {
	l := &plain{shape: s}
	for range s.Plan.Layers {
		l.put = append(l.put, make([][]pair, s.Heads))
		l.pages = append(l.pages, make([][]entry, s.Heads))
	}
	return l
}

func (l *plain) copied() *plain {
	c := plainOf(l.shape)
	for layer := range l.put {
		for head := range l.put[layer] {
			c.put[layer][head] = slices.Clone(l.put[layer][head])
			c.pages[layer][head] = slices.Clone(l.pages[layer][head])
		}
	}
	return c
}

// cut lets only the first tokens stay.
func (l *plain) cut(tokens int) {
	for layer := range l.put {
		for head, all := range l.put[layer] {
			l.put[layer][head] = all[:tokens:tokens]
		}
	}
}

// tokens is how many the last layer has, and so all.
func (l *plain) tokens() int { return len(l.put[len(l.put)-1][0]) }

// next is how many layers have one token more than the last one.
func (l *plain) next() int {
	next := 0
	for _, heads := range l.put {
		if len(heads[0]) > l.tokens() {
			next++
		}
	}
	return next
}

// groups is how many are whole in all tokens but the newest window.
func (l *plain) groups(tokens int) int {
	g := 0
	for (g+1)*l.shape.Plan.Group+l.shape.Plan.Window <= tokens {
		g++
	}
	return g
}

// due asks whether a token more is one group more.
func (l *plain) due() bool {
	return l.tokens() < api.MaxLength && l.groups(l.tokens()+1) > l.groups(l.tokens())
}

func (l *plain) need() int {
	if !l.due() {
		return 0
	}
	return len(l.put) * l.shape.Heads
}

func (l *plain) slots() []int {
	var ids []int
	for _, heads := range l.pages {
		for _, pages := range heads {
			for _, x := range pages {
				ids = append(ids, x.id)
			}
		}
	}
	return ids
}

// quantized makes the page that a head's next group must be.
func (l *plain) quantized(t *testing.T, layer, head int) *page.Page {
	t.Helper()
	plan := l.shape.Plan
	index := len(l.pages[layer][head])
	var keys, values [][]int32
	for _, x := range l.put[layer][head][index*plan.Group : (index+1)*plan.Group] {
		keys, values = append(keys, x.key), append(values, x.value)
	}
	h := page.Head{
		KeyBits: plan.Layers[layer].Key, ValueBits: plan.Layers[layer].Value, Tokens: plan.Group, Dim: l.shape.Dim,
		Layer: layer, Head: head, Index: index,
	}
	x, e := page.Quantize(h, keys, values)
	if e != api.OK {
		t.Fatalf("a page of %v: %d", h, e)
	}
	return x
}

// shelf is a pool, its caches, and what each of them must have; the test holds some of the pool's slots by itself.
type shelf struct {
	pool   *pool.Pool
	slots  int
	own    []int
	caches []*Cache
	lists  []*plain
}

// shelfOf makes a shelf of free slots, without caches.
func shelfOf(t *testing.T, slots int) *shelf {
	t.Helper()
	p, e := pool.New(slots)
	if e != api.OK {
		t.Fatalf("a pool of %d: %d", slots, e)
	}
	return &shelf{pool: p, slots: slots}
}

// cache makes one more cache of a shelf, and tells its number.
func (s *shelf) cache(t *testing.T, shape Shape) int {
	t.Helper()
	c, e := New(s.pool, shape)
	if c == nil || e != api.OK {
		t.Fatalf("New of %v: %d", shape, e)
	}
	s.caches = append(s.caches, c)
	s.lists = append(s.lists, plainOf(shape.copied()))
	s.check(t)
	return len(s.caches) - 1
}

// leave lets the test hold so many slots that no more than these are free.
func (s *shelf) leave(t *testing.T, free int) {
	t.Helper()
	for s.pool.Free() > free {
		id, e := s.pool.Put(made(t, 3))
		if e != api.OK {
			t.Fatalf("a page of the test's own: %d", e)
		}
		s.own = append(s.own, id)
	}
}

// give gives up all slots that the test holds.
func (s *shelf) give() {
	for _, id := range s.own {
		s.pool.Drop(id)
	}
	s.own = nil
}

// counts is how often entries of all caches, and the test, point at each slot.
func (s *shelf) counts() []int {
	counts := make([]int, s.slots)
	for _, id := range s.own {
		counts[id]++
	}
	for _, l := range s.lists {
		for _, id := range l.slots() {
			counts[id]++
		}
	}
	return counts
}

// free is how many slots nobody points at.
func (s *shelf) free() int {
	free := 0
	for _, n := range s.counts() {
		if n == 0 {
			free++
		}
	}
	return free
}

// wrong is the first thing that is wrong with a Put.
func (s *shelf) wrong(i, layer int, keys, values [][]int32) api.Errno {
	l := s.lists[i]
	switch {
	case l.tokens() >= api.MaxLength:
		return api.ErrRange
	case layer != l.next():
		return api.ErrOpen
	case len(keys) != l.shape.Heads || len(values) != l.shape.Heads:
		return api.ErrShape
	}
	for _, x := range slices.Concat(keys, values) {
		if len(x) != l.shape.Dim {
			return api.ErrShape
		}
	}
	if l.due() && s.free() < l.shape.Heads {
		return api.ErrFull
	}
	return api.OK
}

// add puts a token of a layer to a cache's lists: each page's slot is the least one that nobody points at.
func (s *shelf) add(t *testing.T, i, layer int, keys, values [][]int32) api.Errno {
	t.Helper()
	if e := s.wrong(i, layer, keys, values); e != api.OK {
		return e
	}
	l := s.lists[i]
	due := l.due()
	for head := range l.shape.Heads {
		l.put[layer][head] = append(l.put[layer][head], pair{slices.Clone(keys[head]), slices.Clone(values[head])})
		if due {
			l.pages[layer][head] = append(l.pages[layer][head], entry{slices.Index(s.counts(), 0), l.quantized(t, layer, head)})
		}
	}
	return api.OK
}

// put puts a token of a layer to a cache and to its lists alike.
func (s *shelf) put(t *testing.T, i, layer int, keys, values [][]int32) api.Errno {
	t.Helper()
	want := s.add(t, i, layer, keys, values)
	if e := s.caches[i].Put(layer, keys, values); e != want {
		t.Fatalf("cache %d of %v: Put(%d): %d, not %d", i, s.lists[i].shape, layer, e, want)
	}
	s.check(t)
	return want
}

// putAll puts tokens of all layers, each of numbers of its own.
func (s *shelf) putAll(t *testing.T, i, tokens int) {
	t.Helper()
	for range tokens {
		for layer := range s.lists[i].put {
			s.putOne(t, i, layer)
		}
	}
}

// putOne puts a token of one layer.
func (s *shelf) putOne(t *testing.T, i, layer int) {
	t.Helper()
	keys, values := numbers(s.lists[i].shape, len(s.lists[i].put[layer][0])*7+layer+i)
	if e := s.put(t, i, layer, keys, values); e != api.OK {
		t.Fatalf("cache %d: Put(%d): %d", i, layer, e)
	}
}

// refuse asks that a Put is refused with this error, and changes nothing.
func (s *shelf) refuse(t *testing.T, i, layer int, keys, values [][]int32, want api.Errno) {
	t.Helper()
	used := s.pool.Used()
	if e := s.put(t, i, layer, keys, values); e != want {
		t.Fatalf("cache %d: Put(%d) of %d and %d lists: %d, not %d", i, layer, len(keys), len(values), e, want)
	}
	if !slices.Equal(s.pool.Used(), used) {
		t.Fatalf("cache %d: behind an error the pool uses %v, not %v", i, s.pool.Used(), used)
	}
}

// cut cuts a cache and its lists.
func (s *shelf) cut(t *testing.T, i, tokens int) api.Errno {
	t.Helper()
	l := s.lists[i]
	want := api.OK
	switch {
	case l.next() != 0:
		want = api.ErrOpen
	case tokens < 0 || tokens > l.tokens() || l.groups(tokens) < l.groups(l.tokens()):
		want = api.ErrRange
	default:
		l.cut(tokens)
	}
	if e := s.caches[i].Cut(tokens); e != want {
		t.Fatalf("cache %d of %v: Cut(%d): %d, not %d", i, l.shape, tokens, e, want)
	}
	s.check(t)
	return want
}

// fork forks a cache and its lists, and tells the fork's number; -1, if there is none.
func (s *shelf) fork(t *testing.T, i int) int {
	t.Helper()
	was := s.counts()
	f, e := s.caches[i].Fork()
	if s.lists[i].next() != 0 {
		if f != nil || e != api.ErrOpen {
			t.Fatalf("cache %d: Fork: %p, %d", i, f, e)
		}
		s.check(t)
		return -1
	}
	if f == nil || f == s.caches[i] || e != api.OK {
		t.Fatalf("cache %d: Fork: %p, %d", i, f, e)
	}
	s.caches = append(s.caches, f)
	s.lists = append(s.lists, s.lists[i].copied())
	for _, id := range s.lists[i].slots() {
		if s.pool.Refs(id) != was[id]+1 {
			t.Fatalf("cache %d: behind Fork slot %d is held %d times, ahead of it %d", i, id, s.pool.Refs(id), was[id])
		}
	}
	s.check(t)
	return len(s.caches) - 1
}

// clear clears a cache and its lists.
func (s *shelf) clear(t *testing.T, i int) {
	t.Helper()
	s.caches[i].Clear()
	s.lists[i] = plainOf(s.lists[i].shape)
	s.check(t)
}

// clearAll clears all caches: then nobody but the test holds anything.
func (s *shelf) clearAll(t *testing.T) {
	t.Helper()
	for i := range s.caches {
		s.clear(t, i)
	}
	s.give()
	if s.pool.Free() != s.slots || len(s.pool.Used()) != 0 {
		t.Fatalf("all are cleared: Free %d of %d, Used %v", s.pool.Free(), s.slots, s.pool.Used())
	}
}

// check asks of a pool and its caches all that they must tell, if they are as the lists.
func (s *shelf) check(t *testing.T) {
	t.Helper()
	for id, n := range s.counts() {
		if s.pool.Refs(id) != n {
			t.Fatalf("slot %d is held %d times, not %d", id, s.pool.Refs(id), n)
		}
	}
	if s.pool.Free() != s.free() {
		t.Fatalf("Free %d, not %d", s.pool.Free(), s.free())
	}
	for i := range s.caches {
		s.checkCounts(t, i)
		for layer := range s.lists[i].put {
			for head := range s.lists[i].put[layer] {
				s.checkHead(t, i, layer, head)
			}
		}
	}
}

// checkCounts asks how much a cache has, and how much it needs.
func (s *shelf) checkCounts(t *testing.T, i int) {
	t.Helper()
	c, l := s.caches[i], s.lists[i]
	if c.Tokens() != l.tokens() || c.Next() != l.next() || c.Need() != l.need() {
		t.Fatalf("cache %d of %v: Tokens %d, Next %d, Need %d, not %d, %d, %d", i, l.shape, c.Tokens(), c.Next(), c.Need(), l.tokens(), l.next(), l.need())
	}
	room := !l.due() || s.free() >= (len(l.put)-l.next())*l.shape.Heads
	if c.Room() != room {
		t.Fatalf("cache %d of %v: Room %v where %d are free, and Next is %d", i, l.shape, c.Room(), s.free(), l.next())
	}
	for layer, heads := range l.put {
		if c.Len(layer) != len(heads[0]) {
			t.Fatalf("cache %d: Len(%d): %d, not %d", i, layer, c.Len(layer), len(heads[0]))
		}
	}
	if !same(c.Shape(), l.shape) || !slices.Equal(c.Slots(), l.slots()) {
		t.Fatalf("cache %d: Shape %v, Slots %v, not %v, %v", i, c.Shape(), c.Slots(), l.shape, l.slots())
	}
}

// checkHead asks what a head has: the pages that the pool has, the plain tokens, and what all of them mean.
func (s *shelf) checkHead(t *testing.T, i, layer, head int) {
	t.Helper()
	c, l := s.caches[i], s.lists[i]
	want, pages := l.pages[layer][head], c.Pages(layer, head)
	if len(pages) != len(want) || len(pages) != l.groups(c.Len(layer)) {
		t.Fatalf("cache %d of %v: %d pages of %d tokens, not %d", i, l.shape, len(pages), c.Len(layer), len(want))
	}
	var keys, values [][]int32
	for index, x := range pages {
		if got, e := s.pool.Get(want[index].id); got != x || e != api.OK {
			t.Fatalf("cache %d: page %d of %d, %d isn't the one that slot %d has", i, index, layer, head, want[index].id)
		}
		if x.Head() != want[index].page.Head() || !bytes.Equal(x.Bytes(), want[index].page.Bytes()) {
			t.Fatalf("cache %d: page %d of %d, %d: %v, not %v", i, index, layer, head, x.Head(), want[index].page.Head())
		}
		keys, values = append(keys, want[index].page.Keys()...), append(values, want[index].page.Values()...)
	}
	var plainKeys, plainValues [][]int32
	for _, x := range l.put[layer][head][len(keys):] {
		plainKeys, plainValues = append(plainKeys, x.key), append(plainValues, x.value)
	}
	checkLists(t, "Plain", i, c.Plain, layer, head, plainKeys, plainValues)
	checkLists(t, "View", i, c.View, layer, head, append(keys, plainKeys...), append(values, plainValues...))
}

// checkLists asks what Plain, or View, tells.
func checkLists(t *testing.T, name string, i int, tell func(layer, head int) (keys, values [][]int32), layer, head int, keys, values [][]int32) {
	if k, v := tell(layer, head); !equal(k, keys) || !equal(v, values) {
		t.Helper()
		t.Fatalf("cache %d: %s(%d, %d): %v, %v, not %v, %v", i, name, layer, head, k, v, keys, values)
	}
}

// checkNone asks that a cache has nothing of layers and heads that aren't there.
func checkNone(t *testing.T, c *Cache) {
	t.Helper()
	s := c.Shape()
	layers, heads := outside(len(s.Plan.Layers)), outside(s.Heads)
	for _, layer := range layers {
		if n := c.Len(layer); n != 0 {
			t.Errorf("Len(%d): %d", layer, n)
		}
		for _, head := range append(heads, 0, s.Heads-1) {
			checkNothing(t, c, layer, head)
		}
	}
	for _, head := range heads {
		for layer := range s.Plan.Layers {
			checkNothing(t, c, layer, head)
		}
	}
}

func checkNothing(t *testing.T, c *Cache, layer, head int) {
	pages := c.Pages(layer, head)
	k, v := c.Plain(layer, head)
	m, w := c.View(layer, head)
	if len(pages)+len(k)+len(v)+len(m)+len(w) != 0 {
		t.Helper()
		t.Errorf("of layer %d, head %d: %v, %v, %v, %v, %v", layer, head, pages, k, v, m, w)
	}
}

// checkNew asks that a cache means what a new one does that is put its tokens alone.
func (s *shelf) checkNew(t *testing.T, i int) {
	t.Helper()
	l := s.lists[i]
	other := shelfOf(t, len(l.slots())+l.shape.Heads)
	other.cache(t, l.shape)
	for token := range l.tokens() + 1 {
		for layer := range l.put {
			if token == len(l.put[layer][0]) {
				break
			}
			keys, values := l.lists(layer, token)
			if e := other.caches[0].Put(layer, keys, values); e != api.OK {
				t.Fatalf("cache %d of %v: Put again: %d", i, l.shape, e)
			}
		}
	}
	c, d := s.caches[i], other.caches[0]
	if c.Tokens() != d.Tokens() || c.Next() != d.Next() || c.Need() != d.Need() || len(c.Slots()) != len(d.Slots()) {
		t.Fatalf("cache %d: Tokens %d, Next %d, a new one: %d, %d", i, c.Tokens(), c.Next(), d.Tokens(), d.Next())
	}
	for layer := range l.put {
		for head := range l.shape.Heads {
			checkSame(t, c, d, layer, head)
		}
	}
}

// checkSame asks whether two caches have the same of a head.
func checkSame(t *testing.T, c, d *Cache, layer, head int) {
	t.Helper()
	samePage := func(x, y *page.Page) bool { return x.Head() == y.Head() && bytes.Equal(x.Bytes(), y.Bytes()) }
	if !slices.EqualFunc(c.Pages(layer, head), d.Pages(layer, head), samePage) {
		t.Fatalf("of layer %d, head %d: other pages", layer, head)
	}
	keys, values := d.Plain(layer, head)
	checkLists(t, "Plain", 0, c.Plain, layer, head, keys, values)
	keys, values = d.View(layer, head)
	checkLists(t, "View", 0, c.View, layer, head, keys, values)
}

// lists are the keys and values of all heads that a layer was put as a token.
func (l *plain) lists(layer, token int) (keys, values [][]int32) {
	for _, all := range l.put[layer] {
		keys, values = append(keys, all[token].key), append(values, all[token].value)
	}
	return keys, values
}

// numbers makes a key and a value for each head, that differ from those of other numbers.
func numbers(s Shape, n int) (keys, values [][]int32) {
	for head := range s.Heads {
		key, value := make([]int32, s.Dim), make([]int32, s.Dim)
		for i := range s.Dim {
			key[i] = int32((n*37+head*11+i*5)%1009*977 - 400000)
			value[i] = int32(300000 - (n*53+head*17+i*3)%887*811)
		}
		keys, values = append(keys, key), append(values, value)
	}
	return keys, values
}

// made makes a page that no cache has.
func made(t *testing.T, i int) *page.Page {
	t.Helper()
	x, e := page.Quantize(page.Head{KeyBits: 2, ValueBits: 4, Tokens: 1, Dim: 1, Index: i}, [][]int32{{int32(i)}}, [][]int32{{-int32(i)}})
	if e != api.OK {
		t.Fatalf("a page of %d: %d", i, e)
	}
	return x
}

// shaped makes a shape with so many layers, each of other bits than the one ahead.
func shaped(heads, dim, group, window, layers int) Shape {
	all := []tier.Bits{{Key: 2, Value: 4}, {Key: 8, Value: 2}, {Key: 4, Value: 8}, {Key: 8, Value: 8}}
	return Shape{Heads: heads, Dim: dim, Plan: tier.Plan{Group: group, Window: window, Layers: all[:layers]}}
}

// same asks whether two shapes are.
func same(a, b Shape) bool {
	return a.Heads == b.Heads && a.Dim == b.Dim && tier.Equal(a.Plan, b.Plan)
}

// equal asks whether lists of lists are.
func equal(a, b [][]int32) bool { return slices.EqualFunc(a, b, slices.Equal[[]int32]) }

// outside are numbers that nothing of a list of so many has.
func outside(n int) []int {
	return []int{deep, deep + 1, -1 << 32, -n - 1, -2, -1, n, n + 1, n + 16, 1 << 31, 1 << 32, 1<<32 + 1, far - 1, far}
}

// P13.1: which shapes are right, and have a cache.
func TestNew(t *testing.T) {
	p, _ := pool.New(2)
	ask := func(s Shape, right bool) {
		t.Helper()
		if Right(s) != right {
			t.Errorf("Right of %v: %v", s, !right)
		}
		c, e := New(p, s)
		if right && (c == nil || e != api.OK || c.Tokens() != 0 || c.Next() != 0 || len(c.Slots()) != 0 || !same(c.Shape(), s)) {
			t.Errorf("New of %v: %p, %d", s, c, e)
		}
		if !right && (c != nil || e != api.ErrRange) {
			t.Errorf("New of %v: %p, %d", s, c, e)
		}
	}
	for n := -3; n <= 20; n++ {
		ask(shaped(n, 2, 2, 1, 2), n >= 1 && n <= 4)
		ask(shaped(2, n, 2, 1, 2), n >= 1 && n <= 16)
		ask(shaped(2, 2, n, 1, 2), n >= 1 && n <= 16)
	}
	for n := -3; n <= 70; n++ {
		ask(shaped(1, 16, 16, n, 4), n >= 0 && n <= 64)
		for _, b := range []tier.Bits{{Key: n, Value: 2}, {Key: 8, Value: n}} {
			s := shaped(4, 1, 1, 64, 1)
			ask(Shape{s.Heads, s.Dim, tier.Plan{Group: 1, Window: 64, Layers: append(s.Plan.Layers[:1:1], b)}}, n == 2 || n == 4 || n == 8)
		}
	}
	for _, n := range []int{deep, deep + 1, -1 << 32, 1 << 31, 1 << 32, 1<<32 + 1, 1<<32 + 2, far - 1, far} {
		ask(shaped(n, 2, 2, 1, 2), false)
		ask(shaped(2, n, 2, 1, 2), false)
		ask(shaped(2, 2, n, 1, 2), false)
		ask(shaped(2, 2, 2, n, 2), false)
	}
	five := make([]tier.Bits, 5)
	for i := range five {
		five[i] = tier.Bits{Key: 4, Value: 4}
		ask(Shape{1, 1, tier.Plan{Group: 1, Layers: five[:i]}}, i > 0)
	}
	ask(Shape{1, 1, tier.Plan{Group: 1, Layers: five}}, false)
	ask(Shape{1, 1, tier.Plan{Group: 1}}, false)
	ask(Shape{}, false)
	if p.Free() != 2 {
		t.Errorf("Free: %d", p.Free())
	}
}

// P13.1: a cache's shape is its own: what is done to the list that New was handed, or that Shape told, doesn't change it.
func TestShape(t *testing.T) {
	layers := []tier.Bits{{Key: 2, Value: 4}, {Key: 8, Value: 2}, {Key: 5, Value: 5}}
	want := Shape{2, 2, tier.Plan{Group: 1, Window: 0, Layers: []tier.Bits{{Key: 2, Value: 4}, {Key: 8, Value: 2}}}}
	s := shelfOf(t, 40)
	c := s.cache(t, Shape{2, 2, tier.Plan{Group: 1, Window: 0, Layers: layers[:2]}})
	spoil := func(list []tier.Bits) {
		for i := range list[:cap(list)] {
			list[:cap(list)][i] = tier.Bits{Key: 4, Value: 8}
		}
	}
	spoil(layers)
	for range 3 {
		a, b := s.caches[c].Shape(), s.caches[c].Shape()
		spoil(a.Plan.Layers)
		if !same(b, want) || !same(s.caches[c].Shape(), want) {
			t.Errorf("Shape: %v", s.caches[c].Shape())
		}
		s.putAll(t, c, 1)
		f := s.fork(t, c)
		a = s.caches[f].Shape()
		spoil(a.Plan.Layers)
		a.Heads, a.Plan.Group = 4, 9
		s.putAll(t, f, 1)
		s.clear(t, f)
		if !same(s.caches[f].Shape(), want) || !same(s.caches[c].Shape(), want) {
			t.Errorf("Shape of a fork: %v", s.caches[f].Shape())
		}
	}
	if h := s.caches[c].Pages(1, 0)[2].Head(); h.KeyBits != 8 || h.ValueBits != 2 {
		t.Errorf("Head: %v", h)
	}
	handed := shaped(2, 2, 1, 0, 2)
	if _, e := New(s.pool, handed); e != api.OK || !same(handed, want) {
		t.Errorf("New changed what it was handed: %v", handed)
	}
}

// P13.1 to P13.3: tokens put over several groups, layer by layer, of all sizes of groups and windows; all is asked behind each Put.
func TestPut(t *testing.T) {
	for _, s := range []Shape{
		shaped(1, 1, 1, 0, 1), shaped(1, 1, 1, 1, 2), shaped(2, 3, 1, 5, 3), shaped(4, 16, 1, 64, 1),
		shaped(1, 2, 2, 0, 1), shaped(3, 2, 2, 1, 2), shaped(2, 1, 2, 2, 4), shaped(1, 5, 2, 7, 2),
		shaped(2, 4, 3, 0, 2), shaped(1, 3, 3, 1, 3), shaped(2, 2, 3, 2, 1), shaped(1, 1, 5, 4, 2), shaped(4, 1, 7, 20, 1),
		shaped(2, 16, 16, 0, 2), shaped(1, 1, 16, 1, 4), shaped(1, 2, 16, 16, 2), shaped(2, 2, 16, 17, 1), shaped(1, 1, 16, 64, 2), shaped(4, 2, 16, 63, 4),
	} {
		tokens := s.Plan.Window + 3*s.Plan.Group + 2
		l := plainOf(s)
		h := shelfOf(t, l.groups(tokens)*s.Heads*len(s.Plan.Layers))
		c := h.cache(t, s)
		checkNone(t, h.caches[c])
		h.putAll(t, c, tokens)
		if n := h.lists[c].groups(tokens); n < 3 || h.pool.Free() != 0 {
			t.Errorf("%v: %d groups, Free %d", s, n, h.pool.Free())
		}
		checkNone(t, h.caches[c])
		h.checkNew(t, c)
		h.clearAll(t)
	}
}

// P13.1, P13.3: numbers told by hand: groups of 2, a window of 1, two layers, two heads.
func TestPutByHand(t *testing.T) {
	p, _ := pool.New(20)
	c, _ := New(p, shaped(2, 1, 2, 1, 2))
	type told struct{ tokens, next, need, len0, len1, pages0, pages1, plain0, plain1, free int }
	for i, want := range []told{
		{0, 1, 0, 1, 0, 0, 0, 1, 0, 20}, {1, 0, 0, 1, 1, 0, 0, 1, 1, 20},
		{1, 1, 0, 2, 1, 0, 0, 2, 1, 20}, {2, 0, 4, 2, 2, 0, 0, 2, 2, 20},
		{2, 1, 4, 3, 2, 1, 0, 1, 2, 18}, {3, 0, 0, 3, 3, 1, 1, 1, 1, 16},
		{3, 1, 0, 4, 3, 1, 1, 2, 1, 16}, {4, 0, 4, 4, 4, 1, 1, 2, 2, 16},
		{4, 1, 4, 5, 4, 2, 1, 1, 2, 14}, {5, 0, 0, 5, 5, 2, 2, 1, 1, 12},
	} {
		n := int32(i / 2)
		if e := c.Put(i%2, [][]int32{{n}, {10 * n}}, [][]int32{{-n}, {100 + n}}); e != api.OK {
			t.Fatalf("Put %d: %d", i, e)
		}
		k0, _ := c.Plain(0, 1)
		_, v1 := c.Plain(1, 0)
		got := told{c.Tokens(), c.Next(), c.Need(), c.Len(0), c.Len(1), len(c.Pages(0, 0)), len(c.Pages(1, 1)), len(k0), len(v1), p.Free()}
		if got != want {
			t.Errorf("behind Put %d: %v, not %v", i, got, want)
		}
	}
	if ids := c.Slots(); !slices.Equal(ids, []int{0, 4, 1, 5, 2, 6, 3, 7}) {
		t.Errorf("Slots: %v", ids)
	}
	x := c.Pages(0, 1)[1]
	if h := x.Head(); h != (page.Head{KeyBits: 2, ValueBits: 4, Tokens: 2, Dim: 1, Layer: 0, Head: 1, Index: 1}) {
		t.Errorf("Head: %v", h)
	}
	x = c.Pages(1, 0)[0]
	if h := x.Head(); h != (page.Head{KeyBits: 8, ValueBits: 2, Tokens: 2, Dim: 1, Layer: 1, Head: 0, Index: 0}) {
		t.Errorf("Head: %v", h)
	}
	k, v := c.View(1, 1)
	if !equal(k, [][]int32{{0}, {10}, {20}, {30}, {40}}) || !equal(v, [][]int32{{100}, {101}, {102}, {103}, {104}}) {
		t.Errorf("View: %v, %v", k, v)
	}
	k, v = c.Plain(1, 0)
	if !equal(k, [][]int32{{4}}) || !equal(v, [][]int32{{-4}}) {
		t.Errorf("Plain: %v, %v", k, v)
	}
}

// P13.3: any numbers may be put: plain they are the same, in pages what these mean.
func TestPutFar(t *testing.T) {
	s := shelfOf(t, 60)
	c := s.cache(t, shaped(2, 2, 2, 1, 2))
	all := []int32{0, 1, -1, math.MaxInt32, math.MinInt32, math.MaxInt32 - 1, math.MinInt32 + 1, 65536, -65536, api.Narrow, -api.Narrow - 1}
	for i := range 24 {
		at := func(n int) int32 { return all[(i*3+n)%len(all)] }
		k, v := [][]int32{{at(0), at(5)}, {at(3), at(4)}}, [][]int32{{at(4), at(9)}, {at(7), at(3)}}
		s.put(t, c, i%2, k, v)
	}
	s.checkNew(t, c)
}

// P13.2: each of Put's errors alone; what is refused changes nothing.
func TestPutErrors(t *testing.T) {
	for _, tokens := range []int{0, 1, 2, 3, 4} {
		for open := range 3 {
			s := shelfOf(t, 40)
			c := s.cache(t, shaped(3, 2, 2, 1, 3))
			s.putAll(t, c, tokens)
			for layer := range open {
				s.putOne(t, c, layer)
			}
			k, v := numbers(s.lists[c].shape, 5)
			for _, layer := range append(outside(3), 0, 1, 2) {
				if layer != open {
					s.refuse(t, c, layer, k, v, api.ErrOpen)
				}
			}
			for _, bad := range misshapen(k) {
				s.refuse(t, c, open, bad, v, api.ErrShape)
				s.refuse(t, c, open, k, bad, api.ErrShape)
				s.refuse(t, c, open, bad, bad, api.ErrShape)
			}
			s.putOne(t, c, open)
			s.checkNew(t, c)
		}
	}
}

// misshapen are lists like these, but that one thing is wrong.
func misshapen(lists [][]int32) [][][]int32 {
	n := len(lists)
	all := [][][]int32{nil, {}, lists[:n-1], append(lists[:n:n], lists[0]), append(lists[:n:n], nil)}
	for head := range lists {
		for _, x := range [][]int32{nil, {}, lists[head][:len(lists[head])-1], append(lists[head][:len(lists[head]):len(lists[head])], 1), make([]int32, 64)} {
			other := slices.Clone(lists)
			other[head] = x
			all = append(all, other)
		}
	}
	return all
}

// P13.2: where several errors hold at once, the first of them; and a full pool is no error where no pages are needed.
func TestPutFirst(t *testing.T) {
	s := shelfOf(t, 30)
	shape := shaped(2, 2, 2, 0, 2)
	c := s.cache(t, shape)
	k, v := numbers(shape, 9)
	s.leave(t, 1)
	for range 2 {
		s.refuse(t, c, 1, k[:1], v, api.ErrOpen)
		s.refuse(t, c, 0, k[:1], v, api.ErrShape)
	}
	// The first token needs no pages, the second one needs four.
	s.putAll(t, c, 1)
	for _, layer := range []int{1, -1, 2} {
		s.refuse(t, c, layer, k[:1], nil, api.ErrOpen)
		s.refuse(t, c, layer, k, v, api.ErrOpen)
	}
	s.refuse(t, c, 0, k, v[1:], api.ErrShape)
	s.refuse(t, c, 0, k, v, api.ErrFull)
	s.give()
	s.leave(t, 3)
	s.putOne(t, c, 0)
	for _, layer := range []int{0, -1, 2} {
		s.refuse(t, c, layer, k, v[1:], api.ErrOpen)
		s.refuse(t, c, layer, k, v, api.ErrOpen)
	}
	s.refuse(t, c, 1, nil, v, api.ErrShape)
	s.refuse(t, c, 1, k, v, api.ErrFull)
	s.leave(t, 0)
	s.refuse(t, c, 1, k, v, api.ErrFull)
	s.give()
	s.putOne(t, c, 1)
	s.leave(t, 0)
	s.putAll(t, c, 1)
	s.refuse(t, c, 0, k, v, api.ErrFull)
	s.checkNew(t, c)
}

// P13.2: of a pool with just as many free slots as heads the token is put, with one fewer it isn't.
func TestPutFull(t *testing.T) {
	for heads := 1; heads <= api.MaxHeads; heads++ {
		for layers := 1; layers <= api.MaxLayers; layers++ {
			shape := shaped(heads, 1, 1, 0, layers)
			k, v := numbers(shape, 3)
			s := shelfOf(t, 40)
			c := s.cache(t, shape)
			for layer := range layers {
				for free := range heads {
					s.leave(t, free)
					s.refuse(t, c, layer, k, v, api.ErrFull)
					s.give()
				}
				s.leave(t, heads)
				s.putOne(t, c, layer)
				if s.pool.Free() != 0 {
					t.Errorf("%d heads: Free %d", heads, s.pool.Free())
				}
				s.give()
			}
			s.refuse(t, c, -1, k, v, api.ErrOpen)
		}
	}
}

// P13.1: Room: just as many free slots as are still needed, one fewer, and one more, in the middle of a token too.
func TestRoom(t *testing.T) {
	for heads := 1; heads <= 3; heads++ {
		for layers := 1; layers <= 3; layers++ {
			s := shelfOf(t, 60)
			c := s.cache(t, shaped(heads, 1, 2, 1, layers))
			for range 5 * layers {
				l := s.lists[c]
				for free := range layers*heads + 2 {
					s.leave(t, free)
					want := free >= heads*(layers-l.next()) || l.tokens() != 2 && l.tokens() != 4
					if s.caches[c].Room() != want || s.caches[c].Need() != l.need() {
						t.Errorf("Room: %v where %d are free, of %d tokens and %d layers", !want, free, l.tokens(), l.next())
					}
					s.check(t)
					s.give()
				}
				s.putOne(t, c, l.next())
			}
		}
	}
}

// P13.1, P13.2: as many tokens as there may be: no layer takes one more, whatever else is wrong; the last one is put by all layers.
func TestMaxLength(t *testing.T) {
	for _, plan := range []tier.Plan{{Group: 16, Window: 64}, {Group: 1, Window: 0}, {Group: 3, Window: 1}, {Group: 16, Window: 0}, {Group: 16, Window: 15}} {
		shape := Shape{1, 1, tier.Plan{Group: plan.Group, Window: plan.Window, Layers: []tier.Bits{{Key: 2, Value: 4}, {Key: 4, Value: 2}}}}
		p, _ := pool.New(2 * ((api.MaxLength - plan.Window) / plan.Group))
		c, _ := New(p, shape)
		for i := range int32(api.MaxLength) {
			for layer := range 2 {
				if c.Tokens() == api.MaxLength-1 && layer == 1 {
					if e := c.Put(0, [][]int32{{1}}, [][]int32{{1}}); e != api.ErrOpen {
						t.Errorf("in the middle of the last token: %d", e)
					}
				}
				if e := c.Put(layer, [][]int32{{i}}, [][]int32{{-i}}); e != api.OK {
					t.Fatalf("%v: Put %d: %d", plan, i, e)
				}
			}
		}
		if c.Tokens() != api.MaxLength || c.Need() != 0 || !c.Room() || p.Free() != 0 || c.Next() != 0 {
			t.Errorf("%v: Tokens %d, Need %d, Free %d", plan, c.Tokens(), c.Need(), p.Free())
		}
		for _, layer := range append(outside(2), 0, 1) {
			if e := c.Put(layer, [][]int32{{1}}, [][]int32{{1}}); e != api.ErrRange {
				t.Errorf("%v: Put(%d): %d", plan, layer, e)
			}
			if e := c.Put(layer, nil, [][]int32{{1, 2}}); e != api.ErrRange {
				t.Errorf("%v: Put(%d): %d", plan, layer, e)
			}
		}
		checkMost(t, c, p)
	}
}

// checkMost asks of a cache of as many tokens as there may be, that a pool is just great enough for.
func checkMost(t *testing.T, c *Cache, p *pool.Pool) {
	t.Helper()
	plan := c.Shape().Plan
	k, v := c.View(1, 0)
	pages := c.Pages(1, 0)
	plainKeys, _ := c.Plain(1, 0)
	if len(k) != api.MaxLength || len(v) != api.MaxLength || len(pages)*plan.Group+len(plainKeys) != api.MaxLength || len(pages) != (api.MaxLength-plan.Window)/plan.Group {
		t.Errorf("%v: %d and %d of View, %d pages", plan, len(k), len(v), len(pages))
	}
	for i, x := range pages {
		if x.Head().Index != i {
			t.Fatalf("%v: Index of page %d: %v", plan, i, x.Head())
		}
	}
	last := len(plainKeys)
	if last > 0 && plainKeys[last-1][0] != api.MaxLength-1 {
		t.Errorf("%v: %v", plan, plainKeys)
	}
	f, e := c.Fork()
	if e != api.OK || f.Put(0, [][]int32{{1}}, [][]int32{{1}}) != api.ErrRange {
		t.Errorf("%v: Fork: %d", plan, e)
	}
	c.Clear()
	if p.Free() != 0 {
		t.Errorf("%v: Free %d", plan, p.Free())
	}
	f.Clear()
	if p.Free() != p.Slots() || f.Put(0, [][]int32{{1}}, [][]int32{{1}}) != api.OK {
		t.Errorf("%v: Free %d", plan, p.Free())
	}
}

// P13.2: what Put is handed is neither changed nor kept, its spare room neither.
func TestPutMemory(t *testing.T) {
	s := shelfOf(t, 60)
	shape := shaped(2, 3, 2, 2, 2)
	c := s.cache(t, shape)
	for n := range 14 {
		k, v := numbers(shape, n)
		for _, lists := range [][][]int32{k, v} {
			for head := range lists {
				lists[head] = append(lists[head], 77, 78)[:3]
			}
		}
		k, v = append(k, []int32{5})[:2], append(v, []int32{6})[:2]
		wasK, wasV := numbers(shape, n)
		if e := s.put(t, c, n%2, k, v); e != api.OK {
			t.Fatalf("Put: %d", e)
		}
		if !equal(k, wasK) || !equal(v, wasV) || !slices.Equal(k[1][:5][3:], []int32{77, 78}) || !slices.Equal(v[:3][2], []int32{6}) {
			t.Fatalf("Put changed what it was handed: %v, %v", k, v)
		}
		spoil(k)
		spoil(v)
		s.check(t)
	}
}

// spoil writes over all that lists of lists have, and their spare room.
func spoil(lists [][]int32) {
	for _, x := range lists {
		for i := range x[:cap(x)] {
			x[:cap(x)][i] = -9
		}
	}
	for i := range lists[:cap(lists)] {
		lists[:cap(lists)][i] = []int32{-8}
	}
}

// P13.3, P13.4: what is told is new memory: changed, it changes neither the cache nor another answer.
func TestToldMemory(t *testing.T) {
	for tokens := range 9 {
		s := shelfOf(t, 60)
		c := s.cache(t, shaped(2, 2, 2, 1, 2))
		s.putAll(t, c, tokens)
		f := s.fork(t, c)
		for _, i := range []int{c, f} {
			for layer := range 2 {
				for head := range 2 {
					s.spoilTold(t, i, layer, head)
				}
			}
			ids, again := s.caches[i].Slots(), s.caches[i].Slots()
			for j := range ids[:cap(ids)] {
				ids[:cap(ids)][j] = -7
			}
			if !slices.Equal(again, s.lists[i].slots()) {
				t.Errorf("Slots: %v", again)
			}
			s.check(t)
		}
		s.putAll(t, c, 3)
		s.putAll(t, f, 2)
		s.clearAll(t)
	}
}

// spoilTold writes over all that a cache tells of a head.
func (s *shelf) spoilTold(t *testing.T, i, layer, head int) {
	t.Helper()
	c := s.caches[i]
	pages, others := c.Pages(layer, head), c.Pages(layer, head)
	was := slices.Clone(others)
	for j := range pages[:cap(pages)] {
		pages[:cap(pages)][j] = nil
	}
	if !slices.Equal(others, was) {
		t.Fatalf("Pages: %v, not %v", others, was)
	}
	for _, tell := range []func(layer, head int) (keys, values [][]int32){c.Plain, c.View} {
		for first := range 2 {
			var told, again [2][][]int32
			told[0], told[1] = tell(layer, head)
			again[0], again[1] = tell(layer, head)
			// One list after the other, so that a list that shares with one behind it is found.
			for j, x := range told[first] {
				rest := copied(told[first][j+1:])
				for at := range x[:cap(x)] {
					x[:cap(x)][at] = -9
				}
				if !equal(told[first][j+1:], rest) {
					t.Fatalf("list %d shares memory with one behind it", j)
				}
			}
			spoil(told[first])
			if !equal(told[1-first], again[1-first]) {
				t.Fatalf("keys and values share memory")
			}
			s.check(t)
			checkLists(t, "told again", i, func(int, int) (keys, values [][]int32) { return tell(layer, head) }, layer, head, again[0], again[1])
		}
	}
}

func copied(lists [][]int32) [][]int32 {
	var all [][]int32
	for _, x := range lists {
		all = append(all, slices.Clone(x))
	}
	return all
}

// P13.4: Cut to each number of tokens: where the plan quantizes fewer groups of so many, it's refused; tokens put behind it are as in a new cache.
func TestCut(t *testing.T) {
	for _, shape := range []Shape{
		shaped(1, 1, 1, 0, 1), shaped(1, 1, 1, 2, 2), shaped(2, 1, 2, 0, 1), shaped(2, 2, 2, 1, 2), shaped(1, 2, 3, 2, 2), shaped(1, 1, 4, 5, 3), shaped(1, 1, 16, 3, 1),
	} {
		most := shape.Plan.Window + 2*shape.Plan.Group + 1
		for tokens := range most + 1 {
			for to := -1; to <= tokens+1; to++ {
				s := shelfOf(t, 80)
				c := s.cache(t, shape)
				s.putAll(t, c, tokens)
				free := s.pool.Free()
				e := s.cut(t, c, to)
				if s.pool.Free() != free || e == api.OK && s.caches[c].Tokens() != to {
					t.Errorf("%v: Cut(%d): Tokens %d, Free %d", shape, to, s.caches[c].Tokens(), s.pool.Free())
				}
				s.checkNew(t, c)
				// Other numbers than those that were there.
				k, v := numbers(shape, 999+to)
				for layer := range shape.Plan.Layers {
					s.put(t, c, layer, k, v)
				}
				s.putAll(t, c, shape.Plan.Group)
				s.checkNew(t, c)
			}
		}
	}
}

// P13.4: Cut's edges by hand, and numbers far outside.
func TestCutByHand(t *testing.T) {
	s := shelfOf(t, 80)
	// Of 8 tokens 2 groups of 3 are quantized, of 7 too; of 6 one.
	c := s.cache(t, shaped(2, 2, 3, 1, 2))
	for _, to := range append(outside(0), 1) {
		if to != 0 && s.cut(t, c, to) != api.ErrRange {
			t.Errorf("Cut(%d) of none", to)
		}
	}
	if s.cut(t, c, 0) != api.OK {
		t.Errorf("Cut to 0 of none")
	}
	s.putAll(t, c, 3)
	if s.cut(t, c, 0) != api.OK || s.caches[c].Tokens() != 0 {
		t.Errorf("Cut to 0: %d", s.caches[c].Tokens())
	}
	s.putAll(t, c, 8)
	for _, to := range append(outside(9), 0, 1, 3, 4, 5, 6) {
		if s.cut(t, c, to) != api.ErrRange {
			t.Errorf("Cut(%d)", to)
		}
	}
	for _, to := range []int{8, 7, 7} {
		if s.cut(t, c, to) != api.OK || s.caches[c].Tokens() != to || s.caches[c].Len(0) != to || s.caches[c].Len(1) != to {
			t.Errorf("Cut(%d): %d", to, s.caches[c].Tokens())
		}
	}
	if s.cut(t, c, 8) != api.ErrRange {
		t.Errorf("Cut to more than there are")
	}
	s.putAll(t, c, 5)
	s.checkNew(t, c)
}

// P13.4: a cache that not all layers were put a token isn't cut, and has no fork; it can be cleared, and put to.
func TestOpen(t *testing.T) {
	for layers := 1; layers <= api.MaxLayers; layers++ {
		for tokens := range 6 {
			for open := range layers {
				s := shelfOf(t, 99)
				c := s.cache(t, shaped(2, 1, 2, 1, layers))
				s.putAll(t, c, tokens)
				for layer := range open {
					s.putOne(t, c, layer)
				}
				for _, to := range append(outside(tokens), 0, tokens) {
					if e := s.cut(t, c, to); (e == api.ErrOpen) != (open > 0) {
						t.Errorf("Cut(%d) where Next is %d: %d", to, open, e)
					}
				}
				// Cut to 0 may have taken the plain ones of a cache without pages.
				f := s.fork(t, c)
				if (f < 0) != (open > 0) {
					t.Errorf("Fork where Next is %d: %d", open, f)
				}
				s.checkNew(t, c)
				s.putOne(t, c, open)
				s.clear(t, c)
				if c := s.caches[c]; c.Tokens() != 0 || c.Next() != 0 || c.Len(0) != 0 || len(c.Slots()) != 0 || len(c.Pages(0, 0)) != 0 {
					t.Errorf("Clear: Tokens %d, Next %d", c.Tokens(), c.Next())
				}
				s.putAll(t, c, 4)
				s.checkNew(t, c)
				s.clearAll(t)
			}
		}
	}
}

// P13.4: forks of an empty cache, of one with pages and plain tokens, and of forks; what is put to, cut off, or cleared of one leaves the others.
func TestFork(t *testing.T) {
	for tokens := range 8 {
		s := shelfOf(t, 200)
		c := s.cache(t, shaped(2, 2, 2, 1, 2))
		s.putAll(t, c, tokens)
		f := s.fork(t, c)
		g := s.fork(t, f)
		for _, id := range s.caches[c].Slots() {
			if s.pool.Refs(id) != 3 {
				t.Errorf("slot %d: %d", id, s.pool.Refs(id))
			}
		}
		for i := range 3 {
			other := []int{c, f, g}[i]
			k, v := numbers(s.lists[other].shape, 500+100*i)
			for layer := range 2 {
				s.put(t, other, layer, k, v)
			}
			s.putAll(t, other, i)
		}
		s.cut(t, f, s.caches[f].Tokens()-1)
		s.putAll(t, f, 2)
		h := s.fork(t, g)
		for _, i := range []int{f, c, h, g} {
			s.checkNew(t, i)
		}
		for _, i := range []int{g, f, c, h} {
			s.clear(t, i)
			s.putAll(t, i, 1)
		}
		s.clearAll(t)
	}
}

// P13.4: a page of a cache and its forks isn't freed as long as one of them has it, whichever is cleared first.
func TestForkClear(t *testing.T) {
	for first := range 3 {
		s := shelfOf(t, 24)
		c := s.cache(t, shaped(2, 1, 1, 1, 2))
		s.putAll(t, c, 4)
		f := s.fork(t, c)
		all := []int{c, f, s.fork(t, f)}
		page := s.caches[c].Pages(1, 1)[2]
		for i := range 3 {
			left := all[(first+2)%3]
			if s.pool.Free() != 12 || s.caches[left].Pages(1, 1)[2] != page {
				t.Errorf("Free %d ahead of Clear %d", s.pool.Free(), i)
			}
			s.clear(t, all[(first+i)%3])
			s.clear(t, all[(first+i)%3])
		}
		if s.pool.Free() != 24 {
			t.Errorf("Free: %d", s.pool.Free())
		}
		s.putAll(t, all[first], 7)
		s.refuse(t, all[first], 0, [][]int32{{1}, {2}}, [][]int32{{3}, {4}}, api.ErrFull)
		s.checkNew(t, all[first])
	}
}

// P13.4: a fork is over its cache's pool: both take of the same slots.
func TestForkFull(t *testing.T) {
	s := shelfOf(t, 4)
	c := s.cache(t, shaped(1, 1, 1, 0, 1))
	s.putAll(t, c, 2)
	f := s.fork(t, c)
	s.putAll(t, f, 1)
	s.putAll(t, c, 1)
	k, v := numbers(s.lists[c].shape, 1)
	for _, i := range []int{c, f} {
		s.refuse(t, i, 0, k, v, api.ErrFull)
		if s.caches[i].Room() || s.caches[i].Need() != 1 {
			t.Errorf("Room: %v", s.caches[i].Room())
		}
	}
	if x, y := s.caches[c].Slots(), s.caches[f].Slots(); !slices.Equal(x, []int{0, 1, 3}) || !slices.Equal(y, []int{0, 1, 2}) {
		t.Errorf("Slots: %v and %v", x, y)
	}
	s.clear(t, c)
	s.putAll(t, f, 1)
	s.refuse(t, c, 0, k, v, api.ErrFull)
}

// P13.4: Clear of an empty cache, twice, and in the middle of a token.
func TestClear(t *testing.T) {
	s := shelfOf(t, 40)
	c := s.cache(t, shaped(3, 2, 2, 1, 2))
	s.clear(t, c)
	for tokens := range 7 {
		for open := range 2 {
			s.putAll(t, c, tokens)
			if open == 1 {
				s.putOne(t, c, 0)
			}
			s.clear(t, c)
			s.clear(t, c)
			if s.pool.Free() != 40 || s.caches[c].Need() != 0 || len(s.caches[c].Slots()) != 0 {
				t.Errorf("Clear: Free %d", s.pool.Free())
			}
			f := s.fork(t, c)
			s.putAll(t, f, 3)
			s.clear(t, f)
		}
	}
	s.checkNew(t, c)
}

// P13.4: the slots are told row by row: layer by layer, and head by head.
func TestSlots(t *testing.T) {
	s := shelfOf(t, 30)
	c := s.cache(t, shaped(2, 1, 1, 0, 3))
	s.putAll(t, c, 2)
	if ids := s.caches[c].Slots(); !slices.Equal(ids, []int{0, 6, 1, 7, 2, 8, 3, 9, 4, 10, 5, 11}) {
		t.Errorf("Slots: %v", ids)
	}
	s.putOne(t, c, 0)
	if ids := s.caches[c].Slots(); !slices.Equal(ids, []int{0, 6, 12, 1, 7, 13, 2, 8, 3, 9, 4, 10, 5, 11}) {
		t.Errorf("Slots: %v", ids)
	}
}

// P13.1 to P13.4: several caches of different shapes over one pool.
func TestSeveral(t *testing.T) {
	s := shelfOf(t, 60)
	shapes := []Shape{shaped(1, 3, 1, 0, 2), shaped(4, 1, 2, 1, 1), shaped(2, 2, 3, 0, 4), shaped(3, 16, 16, 2, 1), shaped(1, 1, 2, 0, 3)}
	for _, shape := range shapes {
		s.cache(t, shape)
	}
	for range 4 {
		for i := range shapes {
			s.putAll(t, i, 1)
			s.putOne(t, i, 0)
			for layer := 1; layer < len(s.lists[i].put); layer++ {
				s.putOne(t, i, layer)
			}
		}
		s.clear(t, 0)
	}
	for i := range shapes {
		s.checkNew(t, i)
	}
	s.clearAll(t)
	r := shelfOf(t, 2)
	r.cache(t, shapes[0])
	r.putAll(t, 0, 1)
	s.putAll(t, 0, 3)
	r.check(t)
	s.clearAll(t)
	r.check(t)
}

// P13.2 to P13.4: what others hold of the pool stays held, and a page that they give up for a cache is no page of it any more.
func TestOthers(t *testing.T) {
	p, _ := pool.New(6)
	own, _ := p.Put(made(t, 1))
	c, _ := New(p, shaped(1, 1, 1, 1, 1))
	for n := range int32(4) {
		if e := c.Put(0, [][]int32{{n}}, [][]int32{{-n}}); e != api.OK {
			t.Fatalf("Put: %d", e)
		}
	}
	p.Hold(2)
	c.Clear()
	if own != 0 || p.Refs(0) != 1 || p.Refs(2) != 1 || p.Free() != 4 {
		t.Errorf("Clear: Used %v", p.Used())
	}
	p.Drop(2)
	for n := range int32(4) {
		c.Put(0, [][]int32{{n}}, [][]int32{{-n}})
	}
	p.Drop(c.Slots()[1])
	k, v := c.View(0, 0)
	if len(c.Pages(0, 0)) != 2 || !equal(k, [][]int32{{0}, {2}, {3}}) || !equal(v, [][]int32{{0}, {-2}, {-3}}) {
		t.Errorf("View: %v, %v", k, v)
	}
	c.Clear()
	if p.Free() != 5 {
		t.Errorf("Free: %d", p.Free())
	}
}

// Nothing is kept of tokens that were cut off, cleared, or are in pages.
func TestKept(t *testing.T) {
	p, _ := pool.New(20)
	c, _ := New(p, shaped(2, 2, 3, 1, 2))
	for n := range 18 {
		k, v := numbers(c.Shape(), n)
		c.Put(n%2, k, v)
		for row, r := range c.plain {
			if want := c.shape.Plan.Plain(c.Len(row / 2)); r.Len() != want {
				t.Fatalf("row %d keeps %d tokens, not %d", row, r.Len(), want)
			}
		}
	}
	c.Cut(8)
	for row, r := range c.plain {
		if r.Len() != 2 {
			t.Errorf("row %d keeps %d", row, r.Len())
		}
	}
	c.Clear()
	for row, r := range c.plain {
		if r.Len() != 0 || c.table.Len(row) != 0 {
			t.Errorf("row %d keeps %d", row, r.Len())
		}
	}
}

// P13.5: a long row of calls on several caches and their forks over one pool, held against plain lists; and what each means then is what a new one means.
func TestLong(t *testing.T) {
	r := rand.New(rand.NewSource(13))
	for _, slots := range []int{0, 3, 8, 21, 70} {
		s := shelfOf(t, slots)
		for range 4 {
			s.cache(t, anyShape(r))
		}
		seen := map[api.Errno]int{}
		for step := range 2500 {
			i, j := r.Intn(len(s.caches)), r.Intn(len(s.caches))
			// Rows of calls that rather fill take turns with those that rather empty.
			switch kind := r.Intn(40); {
			case kind < 30+step/250%2*5:
				seen[s.putAny(t, r, i)]++
			case kind < 37:
				l := s.lists[i]
				seen[s.cut(t, i, r.Intn(3)-1+l.groups(l.tokens())*l.shape.Plan.Group+r.Intn(4))]++
			case kind == 37:
				s.clear(t, i)
			case kind == 38:
				s.renew(t, i, anyShape(r))
			default:
				s.replace(t, i, j)
			}
			if step%50 == 0 {
				s.checkNew(t, i)
			}
		}
		for i := range s.caches {
			s.checkNew(t, i)
		}
		s.clearAll(t)
		if seen[api.ErrOpen] == 0 || seen[api.ErrRange] == 0 || seen[api.ErrShape] == 0 || seen[api.ErrFull] == 0 || seen[api.OK] == 0 {
			t.Errorf("of %d slots: %v", slots, seen)
		}
	}
}

func anyShape(r *rand.Rand) Shape {
	return shaped(1+r.Intn(3), 1+r.Intn(3), 1+r.Intn(4), r.Intn(4), 1+r.Intn(3))
}

// putAny puts a token that is mostly right.
func (s *shelf) putAny(t *testing.T, r *rand.Rand, i int) api.Errno {
	t.Helper()
	l := s.lists[i]
	layer := l.next()
	k, v := numbers(l.shape, r.Intn(1<<20))
	switch r.Intn(12) {
	case 0:
		layer = r.Intn(len(l.put)+2) - 1
	case 1:
		bad := misshapen(k)
		k = bad[r.Intn(len(bad))]
	case 2:
		bad := misshapen(v)
		v = bad[r.Intn(len(bad))]
	}
	return s.put(t, i, layer, k, v)
}

// renew clears a cache, and lets a new one take its place.
func (s *shelf) renew(t *testing.T, i int, shape Shape) {
	t.Helper()
	s.clear(t, i)
	c, e := New(s.pool, shape)
	if e != api.OK {
		t.Fatalf("New of %v: %d", shape, e)
	}
	s.caches[i], s.lists[i] = c, plainOf(shape)
	s.check(t)
}

// replace lets a fork of one cache take the place of another one.
func (s *shelf) replace(t *testing.T, i, other int) {
	t.Helper()
	f := s.fork(t, other)
	if f < 0 {
		return
	}
	s.clear(t, i)
	s.caches[i], s.lists[i] = s.caches[f], s.lists[f]
	s.caches, s.lists = s.caches[:f], s.lists[:f]
	s.check(t)
}

// The chapter's example: a group of 1, no window: each token is a page for each layer and head.
func TestExample(t *testing.T) {
	s := shelfOf(t, 60)
	c := s.cache(t, shaped(3, 2, 1, 0, 2))
	for tokens := range 10 {
		if s.caches[c].Need() != 6 || len(s.caches[c].Slots()) != 6*tokens || s.pool.Free() != 60-6*tokens {
			t.Errorf("%d tokens: Need %d, Slots %v", tokens, s.caches[c].Need(), s.caches[c].Slots())
		}
		s.putAll(t, c, 1)
		for layer := range 2 {
			for head := range 3 {
				if k, v := s.caches[c].Plain(layer, head); len(s.caches[c].Pages(layer, head)) != tokens+1 || len(k)+len(v) != 0 {
					t.Errorf("%d tokens: %d pages, %v plain", tokens+1, len(s.caches[c].Pages(layer, head)), k)
				}
			}
		}
	}
}
