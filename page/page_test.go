package page

import (
	"encoding/binary"
	"hash/fnv"
	"math"
	"math/rand"
	"slices"
	"testing"

	"credenza/api"
	"credenza/group"
	"credenza/seal"
)

const (
	top   = int32(math.MaxInt32)
	low   = int32(math.MinInt32)
	most  = uint32(1431655765) // the greatest Scale
	whole = uint32(math.MaxUint32)
	far   = math.MaxInt
	deep  = math.MinInt
)

var rightBits = []int{2, 4, 8}

// small is a head of one token and one place; odd has six other numbers, none twice, and leaves bits over; wide is as great as a head may be.
var (
	small = Head{KeyBits: 2, ValueBits: 2, Tokens: 1, Dim: 1}
	odd   = Head{KeyBits: 4, ValueBits: 8, Tokens: 3, Dim: 5, Layer: 1, Head: 2, Index: 777}
	wide  = Head{KeyBits: 8, ValueBits: 8, Tokens: 16, Dim: 16, Layer: 3, Head: 3, Index: 1023}
)

// of makes a list of n times x.
func of[T any](n int, x T) []T { return slices.Repeat([]T{x}, n) }

// with makes a copy of a list, but for y at a place.
func with[T any](l []T, place int, y T) []T {
	l = slices.Clone(l)
	l[place] = y
	return l
}

// copied makes a copy of groups, their codes too.
func copied(groups []group.Group) []group.Group {
	l := slices.Clone(groups)
	for i := range l {
		l[i].Codes = slices.Clone(l[i].Codes)
	}
	return l
}

// sameGroups holds groups against each other.
func sameGroups(a, b []group.Group) bool {
	return slices.EqualFunc(a, b, func(g, h group.Group) bool {
		return g.Zero == h.Zero && g.Scale == h.Scale && slices.Equal(g.Codes, h.Codes)
	})
}

// sameLists holds lists against each other.
func sameLists(a, b [][]int32) bool { return slices.EqualFunc(a, b, slices.Equal[[]int32]) }

// edgeGroup makes a right group of n codes of b bits, its Zero and Scale often at an end.
func edgeGroup(r *rand.Rand, n, b int) group.Group {
	zeros := []int32{low, low + 1, -256, -1, 0, 1, 255, 1 << 16, top - 1, top, int32(r.Uint32()), int32(r.Uint32())}
	scales := []uint32{0, 1, 255, 1 << 16, 1 << 24, most - 1, most, uint32(r.Int63n(int64(most) + 1))}
	g := group.Group{Zero: zeros[r.Intn(len(zeros))], Scale: scales[r.Intn(len(scales))], Codes: make([]int, n)}
	for i := range g.Codes {
		if g.Scale > 0 {
			g.Codes[i] = r.Intn(1 << b)
		}
	}
	return g
}

// edgeGroups makes the groups of a page of this head.
func edgeGroups(r *rand.Rand, h Head) (keys, values []group.Group) {
	for range h.Dim {
		keys = append(keys, edgeGroup(r, h.Tokens, h.KeyBits))
	}
	for range h.Tokens {
		values = append(values, edgeGroup(r, h.Dim, h.ValueBits))
	}
	return keys, values
}

// noughts makes the groups of a page of this head, all of Zero 0, Scale 1 and codes of 0.
func noughts(h Head) (keys, values []group.Group) {
	for range h.Dim {
		keys = append(keys, group.Group{Scale: 1, Codes: of(h.Tokens, 0)})
	}
	for range h.Tokens {
		values = append(values, group.Group{Scale: 1, Codes: of(h.Dim, 0)})
	}
	return keys, values
}

// numbers makes n lists of so many numbers, of spreads from none to all that 32 bits have.
func numbers(r *rand.Rand, n, each int) [][]int32 {
	lists := make([][]int32, n)
	for i := range lists {
		shift := r.Intn(33)
		for range each {
			lists[i] = append(lists[i], int32(r.Uint32())>>shift)
		}
		if r.Intn(4) == 0 {
			lists[i][r.Intn(each)] = []int32{low, top}[r.Intn(2)]
		}
	}
	return lists
}

// heads are right ones: of each pair of bits, tokens and places at their ends and between, the other numbers at their ends.
func heads() []Head {
	var l []Head
	for _, kb := range rightBits {
		for _, vb := range rightBits {
			for _, tokens := range []int{1, 3, 8, 9, 16} {
				for _, dim := range []int{1, 3, 8, 9, 16} {
					l = append(l, Head{kb, vb, tokens, dim, len(l) % 4, len(l) / 4 % 4, []int{0, 255, 256, 259, 1023}[len(l)%5]})
				}
			}
		}
	}
	return l
}

// plainSealed puts the sum behind bytes by the library's sum.
func plainSealed(b []byte) []byte {
	sum := fnv.New32a()
	sum.Write(b)
	return sum.Sum(slices.Clone(b))
}

// plainGroups are the bytes of groups as the chapter says: codes bit by bit, a word's bytes from the highest on.
func plainGroups(b []byte, groups []group.Group, bits int) []byte {
	for _, g := range groups {
		b = binary.BigEndian.AppendUint32(b, uint32(g.Zero))
		b = binary.BigEndian.AppendUint32(b, g.Scale)
		words := make([]uint64, (len(g.Codes)*bits+63)/64)
		for i, code := range g.Codes {
			for k := range bits {
				if at := i*bits + k; code>>k&1 == 1 {
					words[at/64] |= 1 << (at % 64)
				}
			}
		}
		for _, word := range words {
			b = binary.BigEndian.AppendUint64(b, word)
		}
	}
	return b
}

// plainOpen are a page's bytes without their sum, as the chapter says.
func plainOpen(h Head, keys, values []group.Group) []byte {
	b := []byte{'K', byte(h.KeyBits), byte(h.ValueBits), byte(h.Tokens), byte(h.Dim), byte(h.Layer), byte(h.Head)}
	b = binary.BigEndian.AppendUint16(b, uint16(h.Index))
	return plainGroups(plainGroups(b, keys, h.KeyBits), values, h.ValueBits)
}

// plainMeant is what a code means.
func plainMeant(g group.Group, i int) int32 {
	return int32(min(int64(g.Zero)+int64(g.Codes[i])*int64(g.Scale), int64(top)))
}

// checkPage asks of a page all that it must tell, if it has this head and these groups.
func checkPage(t *testing.T, p *Page, h Head, keys, values []group.Group) {
	t.Helper()
	if p == nil || p.Head() != h || !sameGroups(p.KeyGroups(), keys) || !sameGroups(p.ValueGroups(), values) {
		t.Fatalf("page of %v: it has other groups", h)
	}
	allKeys, allValues := p.Keys(), p.Values()
	if len(allKeys) != h.Tokens || len(allValues) != h.Tokens {
		t.Fatalf("page of %v: %d keys, %d values", h, len(allKeys), len(allValues))
	}
	for token := -2; token < h.Tokens+2; token++ {
		if token >= 0 && token < h.Tokens && (len(allKeys[token]) != h.Dim || len(allValues[token]) != h.Dim) {
			t.Fatalf("page of %v: %v, %v at %d", h, allKeys[token], allValues[token], token)
		}
		for place := -2; place < h.Dim+2; place++ {
			key, value := int32(0), int32(0)
			if token >= 0 && place >= 0 && token < h.Tokens && place < h.Dim {
				key, value = plainMeant(keys[place], token), plainMeant(values[token], place)
				if allKeys[token][place] != key || allValues[token][place] != value {
					t.Fatalf("page of %v: key %d, value %d at %d, %d, not %d, %d", h, allKeys[token][place], allValues[token][place], token, place, key, value)
				}
			}
			if p.Key(token, place) != key || p.Value(token, place) != value {
				t.Fatalf("page of %v: Key %d, Value %d at %d, %d, not %d, %d", h, p.Key(token, place), p.Value(token, place), token, place, key, value)
			}
		}
	}
	if b := p.Bytes(); !slices.Equal(b, plainSealed(plainOpen(h, keys, values))) || len(b) != Size(h) {
		t.Fatalf("page of %v: %d bytes: %x", h, len(b), b)
	}
}

// field is one number of a head: how it is set, and its least and its greatest.
type field struct {
	set         func(h *Head, x int)
	least, most int
}

var ranges = []field{
	{func(h *Head, x int) { h.Tokens = x }, 1, 16},
	{func(h *Head, x int) { h.Dim = x }, 1, 16},
	{func(h *Head, x int) { h.Layer = x }, 0, 3},
	{func(h *Head, x int) { h.Head = x }, 0, 3},
	{func(h *Head, x int) { h.Index = x }, 0, 1023},
}

var bitFields = []func(h *Head, x int){func(h *Head, x int) { h.KeyBits = x }, func(h *Head, x int) { h.ValueBits = x }}

// wrongHeads are heads of which one number isn't right.
func wrongHeads() []Head {
	var l []Head
	put := func(set func(*Head, int), numbers ...int) {
		for _, h := range []Head{small, odd, wide} {
			for _, x := range numbers {
				h := h
				set(&h, x)
				l = append(l, h)
			}
		}
	}
	for _, f := range ranges {
		put(f.set, f.least-1, f.most+1, -1, -f.most, deep, far, 1<<32+f.least, 1<<32+f.most, 1<<16+f.most, deep+f.most, 1<<24)
	}
	for _, set := range bitFields {
		put(set, 0, 1, 3, 5, 6, 7, 9, 10, 12, 16, 32, 64, -1, -2, -4, -8, 256+2, 1<<32+2, 1<<32+4, 1<<32+8, deep+2, deep, far)
	}
	return append(l, Head{})
}

// P8.1: each field of a head at its least and its greatest number, and one past both; and all of them alone.
func TestRight(t *testing.T) {
	for _, h := range append(heads(), small, odd, wide) {
		if !Right(h) {
			t.Errorf("Right(%v): false", h)
		}
	}
	for _, h := range wrongHeads() {
		if Right(h) {
			t.Errorf("Right(%v): true", h)
		}
	}
	for i, f := range ranges {
		for _, h := range []Head{small, odd, wide} {
			for x := -20; x <= 1100; x++ {
				f.set(&h, x)
				if want := x >= f.least && x <= f.most; Right(h) != want {
					t.Fatalf("Right, field %d at %d: %v", i, x, !want)
				}
			}
		}
	}
	for i, set := range bitFields {
		for _, h := range []Head{small, odd, wide} {
			for x := -300; x <= 300; x++ {
				set(&h, x)
				if want := slices.Contains(rightBits, x); Right(h) != want {
					t.Fatalf("Right, bits %d at %d: %v", i, x, !want)
				}
			}
		}
	}
}

// P8.1, P8.2, P8.3: a page of groups has them, means what they mean, and has the bytes that the chapter says; so has what is read from these.
func TestNewAndParse(t *testing.T) {
	r := rand.New(rand.NewSource(8))
	for _, h := range append(heads(), small, odd, wide) {
		for range 4 {
			keys, values := edgeGroups(r, h)
			p, e := New(h, keys, values)
			if e != api.OK {
				t.Fatalf("New of %v: %d", h, e)
			}
			checkPage(t, p, h, keys, values)
			q, e := Parse(plainSealed(plainOpen(h, keys, values)))
			if e != api.OK {
				t.Fatalf("Parse of %v: %d", h, e)
			}
			checkPage(t, q, h, keys, values)
		}
	}
}

// P8.1, P8.2: Zero below 0 and at both ends of 32 bits, beside the least and the greatest Scale and code.
func TestEnds(t *testing.T) {
	for _, b := range rightBits {
		h := Head{b, b, 2, 1, 0, 0, 0}
		for _, zero := range []int32{low, low + 1, -65536, -1, 0, 1, top - 1, top} {
			for _, scale := range []uint32{1, 1 << 16, most - 1, most} {
				last := 1<<b - 1
				keys := []group.Group{{Zero: zero, Scale: scale, Codes: []int{last, 0}}}
				values := []group.Group{{Zero: zero, Scale: scale, Codes: []int{0}}, {Zero: zero, Scale: scale, Codes: []int{last}}}
				p, e := New(h, keys, values)
				if e != api.OK {
					t.Fatalf("New: %d", e)
				}
				checkPage(t, p, h, keys, values)
				if p.Key(1, 0) != zero || p.Value(0, 0) != zero {
					t.Errorf("code 0 of Zero %d: %d, %d", zero, p.Key(1, 0), p.Value(0, 0))
				}
			}
		}
	}
}

// P8.1: what isn't a page, and which error is told where several hold.
func TestNewRefused(t *testing.T) {
	h := Head{KeyBits: 2, ValueBits: 4, Tokens: 3, Dim: 2}
	key, value := group.Group{Scale: 1, Codes: []int{0, 3, 1}}, group.Group{Scale: 1, Codes: []int{0, 15}}
	keys, values := of(2, key), of(3, value)
	keyCodes := func(c ...int) []group.Group { return with(keys, 1, group.Group{Scale: 1, Codes: c}) }
	valueCodes := func(c ...int) []group.Group { return with(values, 2, group.Group{Scale: 1, Codes: c}) }
	scaled := func(l []group.Group, i int, scale uint32) []group.Group {
		l = copied(l)
		l[i].Scale = scale
		return l
	}
	bad := group.Group{Scale: whole, Codes: []int{-1}}
	for i, c := range []struct {
		h            Head
		keys, values []group.Group
		e            api.Errno
	}{
		{h, keys, values, api.OK}, {h, scaled(keys, 0, most), scaled(values, 2, most), api.OK}, {h, with(keys, 0, group.Group{Zero: -7, Codes: of(3, 0)}), values, api.OK}, {h, keys, with(values, 1, group.Group{Zero: low, Codes: of(2, 0)}), api.OK},
		// Too few, too many, none.
		{h, keys[:1], values, api.ErrShape}, {h, append(keys, key), values, api.ErrShape}, {h, keys, values[:2], api.ErrShape}, {h, keys, append(values, value), api.ErrShape}, {h, nil, values, api.ErrShape}, {h, keys, nil, api.ErrShape}, {h, nil, nil, api.ErrShape}, {h, []group.Group{}, []group.Group{}, api.ErrShape}, {h, keys[:0], values, api.ErrShape}, {h, keys, values[:0], api.ErrShape}, {h, of(1<<16+2, key), values, api.ErrShape}, {h, keys, of(1<<16+3, value), api.ErrShape}, {h, values, keys, api.ErrShape}, {h, of(3, key), of(2, value), api.ErrShape}, {h, of(2, value), of(3, key), api.ErrShape},
		// Of another number of codes.
		{h, keyCodes(0, 1), values, api.ErrShape}, {h, keyCodes(0, 1, 2, 3), values, api.ErrShape}, {h, keyCodes(), values, api.ErrShape}, {h, with(keys, 0, group.Group{}), values, api.ErrShape}, {h, keys, valueCodes(1), api.ErrShape}, {h, keys, valueCodes(1, 2, 3), api.ErrShape}, {h, keys, valueCodes(), api.ErrShape}, {h, keys, with(values, 0, group.Group{Codes: []int{}}), api.ErrShape}, {h, keyCodes(of(257, 0)...), values, api.ErrShape}, {h, keys, valueCodes(of(257, 0)...), api.ErrShape},
		// Not right, among the keys and among the values.
		{h, keyCodes(0, 0, 4), values, api.ErrRange}, {h, keyCodes(-1, 0, 0), values, api.ErrRange}, {h, keyCodes(0, far, 0), values, api.ErrRange}, {h, keyCodes(0, 1<<32, 0), values, api.ErrRange}, {h, scaled(keys, 0, most+1), values, api.ErrScale}, {h, scaled(keys, 1, whole), values, api.ErrScale}, {h, scaled(keys, 0, 0), values, api.ErrScale}, {h, scaled(keys, 1, 0), values, api.ErrScale},
		{h, keys, valueCodes(0, 16), api.ErrRange}, {h, keys, valueCodes(-1, 0), api.ErrRange}, {h, keys, valueCodes(deep, 0), api.ErrRange}, {h, keys, scaled(values, 0, most+1), api.ErrScale}, {h, keys, scaled(values, 1, most+1), api.ErrScale}, {h, keys, scaled(values, 2, 0), api.ErrScale},
		// Keys have the bits of keys, values those of values.
		{h, keyCodes(15, 0, 0), values, api.ErrRange}, {Head{KeyBits: 4, ValueBits: 2, Tokens: 3, Dim: 2}, keys, values, api.ErrRange}, {Head{KeyBits: 4, ValueBits: 2, Tokens: 3, Dim: 2}, keyCodes(15, 15, 15), of(3, group.Group{Scale: 1, Codes: []int{3, 3}}), api.OK}, {Head{KeyBits: 2, ValueBits: 8, Tokens: 3, Dim: 2}, keys, valueCodes(255, 255), api.OK},
		// Several of them: the head, the shape, the keys in order, the values in order.
		{Head{}, nil, nil, api.ErrRange}, {Head{KeyBits: 3, ValueBits: 4, Tokens: 3, Dim: 2}, keys[:1], values, api.ErrRange}, {Head{KeyBits: 2, ValueBits: 4, Tokens: 17, Dim: 2}, scaled(keys, 0, 0), values, api.ErrRange}, {Head{KeyBits: 2, ValueBits: 4, Tokens: 3, Dim: 2, Index: 1024}, keys, scaled(values, 0, 0), api.ErrRange},
		{h, with(keys, 0, bad), values, api.ErrShape}, {h, scaled(keys, 0, 0), values[:2], api.ErrShape}, {h, scaled(keys, 0, 0), valueCodes(1), api.ErrShape}, {h, keyCodes(0, 0, 4), valueCodes(1, 1, 1), api.ErrShape}, {h, keyCodes(4), values, api.ErrShape}, {h, append(scaled(keys, 0, whole), key), values, api.ErrShape}, {h, keys, with(scaled(values, 0, 0), 2, bad), api.ErrShape},
		{h, with(keyCodes(0, 4, 0), 0, group.Group{Codes: []int{0, 0, 1}}), values, api.ErrScale}, {h, with(scaled(keys, 1, 0), 0, group.Group{Scale: 1, Codes: []int{0, 0, 4}}), values, api.ErrRange}, {h, keyCodes(0, 4, 0), scaled(values, 0, 0), api.ErrRange}, {h, scaled(keys, 1, whole), valueCodes(0, 16), api.ErrScale}, {h, keys, with(valueCodes(0, 16), 1, group.Group{Codes: []int{1, 0}}), api.ErrScale}, {h, keys, with(scaled(values, 2, 0), 0, group.Group{Scale: 1, Codes: []int{16, 0}}), api.ErrRange}, {h, with(keys, 1, group.Group{Scale: whole, Codes: []int{4, -1, 9}}), values, api.ErrScale},
	} {
		if p, e := New(c.h, c.keys, c.values); e != c.e || (p == nil) != (e != api.OK) {
			t.Errorf("New %d: %v, %d, not %d", i, p, e, c.e)
		}
	}
	for _, h := range wrongHeads() {
		n, m := max(min(h.Dim, 20), 0), max(min(h.Tokens, 20), 0)
		keys, values := of(n, group.Group{Scale: 1, Codes: of(m, 0)}), of(m, group.Group{Scale: 1, Codes: of(n, 0)})
		if p, e := New(h, keys, values); p != nil || e != api.ErrRange {
			t.Errorf("New of %v: %d", h, e)
		}
	}
}

// columns makes a list of each place.
func columns(lists [][]int32) [][]int32 {
	l := make([][]int32, len(lists[0]))
	for _, x := range lists {
		for place, v := range x {
			l[place] = append(l[place], v)
		}
	}
	return l
}

// grouped makes groups by layer 7's Of.
func grouped(t *testing.T, lists [][]int32, bits int) []group.Group {
	t.Helper()
	var l []group.Group
	for _, x := range lists {
		g, e := group.Of(x, bits)
		if e != api.OK {
			t.Fatalf("Of: %d", e)
		}
		l = append(l, g)
	}
	return l
}

// P8.1, P8.2: keys are grouped by places and values by tokens; what is meant is at most half a scale away.
func TestQuantize(t *testing.T) {
	r := rand.New(rand.NewSource(9))
	for _, h := range append(heads(), small, odd, wide) {
		for range 3 {
			keys, values := numbers(r, h.Tokens, h.Dim), numbers(r, h.Tokens, h.Dim)
			p, e := Quantize(h, keys, values)
			if e != api.OK {
				t.Fatalf("Quantize of %v: %d", h, e)
			}
			k, v := grouped(t, columns(keys), h.KeyBits), grouped(t, values, h.ValueBits)
			checkPage(t, p, h, k, v)
			for token := range h.Tokens {
				for place := range h.Dim {
					if away(p.Key(token, place), keys[token][place])*2 > int64(k[place].Scale) || away(p.Value(token, place), values[token][place])*2 > int64(v[token].Scale) {
						t.Fatalf("Quantize of %v: too far at %d, %d", h, token, place)
					}
				}
			}
		}
	}
}

// away is how far two numbers are from each other.
func away(a, b int32) int64 { return max(int64(a)-int64(b), int64(b)-int64(a)) }

// P8.1: groups that are written out, both ways of grouping, with the ends of 32 bits.
func TestQuantizeKnown(t *testing.T) {
	h := Head{KeyBits: 2, ValueBits: 4, Tokens: 3, Dim: 2, Layer: 1, Head: 3, Index: 300}
	p, e := Quantize(h, [][]int32{{0, low}, {10, top}, {30, 0}}, [][]int32{{-5, 25}, {low, top}, {9, 9}})
	if e != api.OK {
		t.Fatalf("Quantize: %d", e)
	}
	checkPage(t, p, h,
		[]group.Group{{Zero: 0, Scale: 10, Codes: []int{0, 1, 3}}, {Zero: low, Scale: most, Codes: []int{0, 3, 2}}},
		[]group.Group{{Zero: -5, Scale: 2, Codes: []int{0, 15}}, {Zero: low, Scale: 286331153, Codes: []int{0, 15}}, {Zero: 9, Scale: 0, Codes: []int{0, 0}}})
	if !sameLists(p.Keys(), [][]int32{{0, low}, {10, top}, {30, 715827882}}) || !sameLists(p.Values(), [][]int32{{-5, 25}, {low, top}, {9, 9}}) {
		t.Errorf("Keys: %v, Values: %v", p.Keys(), p.Values())
	}
}

// P8.1: lists that aren't quantized; nil and empty ones.
func TestQuantizeRefused(t *testing.T) {
	h := Head{KeyBits: 2, ValueBits: 4, Tokens: 3, Dim: 2}
	good := [][]int32{{1, 2}, {3, 4}, {5, 6}}
	for i, bad := range [][][]int32{
		nil, {}, good[:0], good[:1], good[:2], append(slices.Clone(good), []int32{7, 8}), of(1<<16+3, good[0]), {nil, nil, nil}, {{1, 2, 3}, {4, 5, 6}}, {{1}, {2}, {3}}, {{1, 2, 3}, {4, 5, 6}, {7, 8, 9}}, {{1, 3, 5}, {2, 4, 6}},
		with(good, 0, []int32{1}), with(good, 1, []int32{1}), with(good, 2, []int32{1}), with(good, 0, []int32{1, 2, 3}), with(good, 1, []int32{1, 2, 3}), with(good, 2, []int32{1, 2, 3}), with(good, 0, nil), with(good, 2, nil), with(good, 1, []int32{}), with(good, 2, good[2][:0]), with(good, 1, of(1<<16+2, int32(1))), {{1, 2, 3}, {4}, {5, 6}},
	} {
		for _, c := range [][2][][]int32{{bad, good}, {good, bad}, {bad, bad}, {bad, nil}} {
			if p, e := Quantize(h, c[0], c[1]); p != nil || e != api.ErrShape {
				t.Errorf("Quantize %d: %d", i, e)
			}
			if p, e := Quantize(Head{KeyBits: 2, ValueBits: 4, Tokens: 3, Dim: 2, Layer: -1}, c[0], c[1]); p != nil || e != api.ErrRange {
				t.Errorf("Quantize %d with a wrong head: %d", i, e)
			}
		}
	}
	for _, h := range wrongHeads() {
		l := of(max(min(h.Tokens, 20), 0), of(max(min(h.Dim, 20), 0), int32(5)))
		if p, e := Quantize(h, l, l); p != nil || e != api.ErrRange {
			t.Errorf("Quantize of %v: %d", h, e)
		}
	}
	if p, e := Quantize(Head{}, nil, nil); p != nil || e != api.ErrRange {
		t.Errorf("Quantize of nothing: %d", e)
	}
}

// P8.2: a token and a place that aren't there are 0, though all that is there isn't.
func TestNotThere(t *testing.T) {
	for _, h := range heads() {
		all := of(h.Tokens, of(h.Dim, int32(77)))
		p, e := Quantize(h, all, all)
		if e != api.OK || !sameLists(p.Keys(), all) || !sameLists(p.Values(), all) || p.Key(h.Tokens-1, h.Dim-1) != 77 || p.Value(h.Tokens-1, h.Dim-1) != 77 {
			t.Fatalf("page of %v: %d", h, e)
		}
		for _, past := range []int{-1, -2, -16, 16, 17, 64, 1 << 32, far, deep, deep + 1} {
			for place := range h.Dim {
				checkNought(t, p, past, place)
				checkNought(t, p, h.Tokens, place)
			}
			for token := range h.Tokens {
				checkNought(t, p, token, past)
				checkNought(t, p, token, h.Dim)
			}
			checkNought(t, p, past, past)
		}
	}
}

// checkNought asks that a page tells 0 of a token at a place.
func checkNought(t *testing.T, p *Page, token, place int) {
	t.Helper()
	if k, v := p.Key(token, place), p.Value(token, place); k != 0 || v != 0 {
		t.Errorf("page of %v, at %d, %d: %d, %d", p.Head(), token, place, k, v)
	}
}

// P8.3: sizes that are reckoned by hand: codes that fill a word just, and that leave bits over.
func TestSize(t *testing.T) {
	for _, c := range []struct {
		h    Head
		want int
	}{
		{small, 9 + 16 + 16 + 4}, {wide, 9 + 16*24 + 16*24 + 4}, {odd, 9 + 5*16 + 3*16 + 4},
		{Head{2, 2, 3, 1, 0, 0, 0}, 9 + 16 + 3*16 + 4}, {Head{4, 2, 3, 1, 0, 0, 0}, 9 + 16 + 3*16 + 4}, {Head{8, 2, 3, 1, 0, 0, 0}, 9 + 16 + 3*16 + 4},
		{Head{2, 2, 16, 1, 0, 0, 0}, 9 + 16 + 16*16 + 4}, {Head{4, 2, 16, 1, 0, 0, 0}, 9 + 16 + 16*16 + 4}, {Head{8, 2, 16, 1, 0, 0, 0}, 9 + 24 + 16*16 + 4},
		{Head{2, 2, 1, 16, 0, 0, 0}, 9 + 16*16 + 16 + 4}, {Head{2, 4, 1, 16, 0, 0, 0}, 9 + 16*16 + 16 + 4}, {Head{2, 8, 1, 16, 0, 0, 0}, 9 + 16*16 + 24 + 4},
		{Head{8, 4, 8, 16, 0, 0, 0}, 9 + 16*16 + 8*16 + 4}, {Head{8, 4, 9, 16, 0, 0, 0}, 9 + 16*24 + 9*16 + 4}, {Head{4, 8, 16, 9, 0, 0, 0}, 9 + 9*16 + 16*24 + 4}, {Head{4, 8, 16, 8, 3, 3, 1023}, 9 + 8*16 + 16*16 + 4},
	} {
		if n := Size(c.h); n != c.want {
			t.Errorf("Size(%v): %d, not %d", c.h, n, c.want)
		}
	}
	for _, h := range wrongHeads() {
		if n := Size(h); n != 0 {
			t.Errorf("Size(%v): %d", h, n)
		}
	}
}

// P8.3: bytes written out: 3 and 16 codes of 2, 4 and 8 bits, a Zero below 0, an Index above 255.
func TestBytesKnown(t *testing.T) {
	key := func(n, last int) group.Group {
		g := group.Group{Zero: -2, Scale: most, Codes: make([]int, n)}
		g.Codes[0], g.Codes[1], g.Codes[n-1] = 1, 2, last
		return g
	}
	for i, c := range []struct {
		bits, tokens, last int
		words              string
	}{
		{2, 3, 3, "\x00\x00\x00\x00\x00\x00\x00\x39"}, {4, 3, 15, "\x00\x00\x00\x00\x00\x00\x0f\x21"}, {8, 3, 254, "\x00\x00\x00\x00\x00\xfe\x02\x01"},
		{2, 16, 3, "\x00\x00\x00\x00\xc0\x00\x00\x09"}, {4, 16, 15, "\xf0\x00\x00\x00\x00\x00\x00\x21"}, {8, 16, 254, "\x00\x00\x00\x00\x00\x00\x02\x01\xfe\x00\x00\x00\x00\x00\x00\x00"},
	} {
		h := Head{KeyBits: c.bits, ValueBits: 2, Tokens: c.tokens, Dim: 1, Layer: 3, Head: 2, Index: 0x203}
		want := string([]byte{'K', byte(c.bits), 2, byte(c.tokens), 1, 3, 2, 2, 3}) + "\xff\xff\xff\xfe\x55\x55\x55\x55" + c.words
		for range c.tokens {
			want += "\x80\x00\x00\x00\x00\x00\x00\x01\x00\x00\x00\x00\x00\x00\x00\x03"
		}
		p, e := New(h, []group.Group{key(c.tokens, c.last)}, of(c.tokens, group.Group{Zero: low, Scale: 1, Codes: []int{3}}))
		if e != api.OK || string(p.Bytes()) != string(plainSealed([]byte(want))) {
			t.Errorf("Bytes %d: %d", i, e)
		}
		// The same codes as values, of one token with so many places.
		h.KeyBits, h.ValueBits, h.Tokens, h.Dim = 2, c.bits, 1, c.tokens
		want = string([]byte{'K', 2, byte(c.bits), 1, byte(c.tokens), 3, 2, 2, 3})
		for range c.tokens {
			want += "\x7f\xff\xff\xff\x00\x00\x00\x00\x00\x00\x00\x00\x00\x00\x00\x00"
		}
		want += "\xff\xff\xff\xfe\x55\x55\x55\x55" + c.words
		p, e = New(h, of(c.tokens, group.Group{Zero: top, Codes: []int{0}}), []group.Group{key(c.tokens, c.last)})
		if e != api.OK || string(p.Bytes()) != string(plainSealed([]byte(want))) {
			t.Errorf("Bytes %d, values: %d", i, e)
		}
	}
}

// refused asks of bytes, which are sealed here, that they aren't read, for this reason; OK: that they are, and are the page's own.
func refused(t *testing.T, name string, open []byte, want api.Errno) {
	t.Helper()
	b := plainSealed(open)
	p, e := Parse(b)
	if e != want || (p == nil) != (e != api.OK) {
		t.Errorf("Parse, %s: %d, not %d", name, e, want)
		return
	}
	if p != nil && !slices.Equal(p.Bytes(), b) {
		t.Errorf("Parse, %s: bytes are others", name)
	}
}

// P8.3: bytes that are no sealed ones, and sealed ones that are too few, or too many.
func TestParseLengths(t *testing.T) {
	for n := range 4 {
		for _, b := range [][]byte{of(n, byte(0)), of(n, byte('K')), of(n, byte(255))} {
			if p, e := Parse(b); p != nil || e != api.ErrShort {
				t.Errorf("Parse of %d bytes: %d", n, e)
			}
		}
	}
	for _, b := range [][]byte{of(4, byte(0)), []byte("Kmore than nine bytes"), of(45, byte(0)), plainOpen(small, []group.Group{{Codes: []int{0}}}, []group.Group{{Codes: []int{0}}})} {
		if p, e := Parse(b); p != nil || e != api.ErrSeal {
			t.Errorf("Parse of %x: %d", b, e)
		}
	}
	r := rand.New(rand.NewSource(10))
	for _, h := range []Head{small, odd, wide, {8, 2, 16, 1, 0, 0, 256}, {2, 8, 1, 16, 3, 0, 0}} {
		open := plainOpen(h, first(edgeGroups(r, h)), second(noughts(h)))
		for n := range open {
			refused(t, "too few", open[:n], api.ErrShort)
		}
		refused(t, "all", open, api.OK)
		for _, more := range [][]byte{{0}, {255}, {'K'}, of(4, byte(0)), of(8, byte(0)), of(16, byte(0)), open, of(1<<16, byte(0))} {
			refused(t, "too many", slices.Concat(open, more), api.ErrBig)
		}
		// Sealed twice: the sum ahead is four bytes too many.
		refused(t, "sealed twice", plainSealed(open), api.ErrBig)
	}
	// Which one is told: fewer than nine ahead of the first byte, that ahead of the head, and that ahead of the rest.
	refused(t, "short, and no K", []byte("kkkkkkkk"), api.ErrShort)
	refused(t, "short, and wrong bits", []byte("K\x03\x03\x00\x00\x09\x09\x09"), api.ErrShort)
	refused(t, "no K, and wrong bits", []byte("k\x03\x03\x00\x00\x09\x09\x09\x09"), api.ErrForm)
	refused(t, "no K, and too few", []byte("k\x02\x02\x01\x01\x00\x00\x00\x00"), api.ErrForm)
	refused(t, "wrong head, and too few", []byte("K\x02\x02\x01\x11\x00\x00\x00\x00"), api.ErrRange)
	refused(t, "right head, and too few", []byte("K\x02\x02\x01\x01\x00\x00\x00\x00"), api.ErrShort)
	refused(t, "no K, and too many", append([]byte("k\x02\x02\x01\x01\x00\x00\x00\x00"), of(99, byte(0))...), api.ErrForm)
	refused(t, "wrong head, and too many", append([]byte("K\x02\x02\x01\x00\x00\x00\x00\x00"), of(99, byte(255))...), api.ErrRange)
	refused(t, "too many, and wrong groups", append([]byte("K\x02\x02\x01\x01\x00\x00\x00\x00"), of(33, byte(255))...), api.ErrBig)
	refused(t, "too few, and wrong groups", append([]byte("K\x02\x02\x01\x01\x00\x00\x00\x00"), of(31, byte(255))...), api.ErrShort)
}

func first(a, _ []group.Group) []group.Group  { return a }
func second(_, b []group.Group) []group.Group { return b }

// P8.3: each byte of a head with each of its 256 numbers.
func TestParseHead(t *testing.T) {
	for _, h := range []Head{small, odd, wide, {8, 2, 9, 8, 0, 3, 255}} {
		open := plainOpen(h, first(noughts(h)), second(noughts(h)))
		for x := range 256 {
			for at := range 9 {
				b := with(open, at, byte(x))
				got := Head{int(b[1]), int(b[2]), int(b[3]), int(b[4]), int(b[5]), int(b[6]), int(b[7])*256 + int(b[8])}
				want := api.OK
				switch {
				case b[0] != 'K':
					want = api.ErrForm
				case !Right(got):
					want = api.ErrRange
				case len(b)+4 < Size(got):
					want = api.ErrShort
				case len(b)+4 > Size(got):
					want = api.ErrBig
				}
				refused(t, "a byte of the head", b, want)
			}
		}
	}
	for _, c := range []struct {
		at int
		x  byte
	}{{1, 0}, {1, 3}, {1, 16}, {2, 1}, {2, 6}, {2, 255}, {3, 0}, {3, 17}, {4, 0}, {4, 17}, {4, 255}, {5, 4}, {5, 255}, {6, 4}, {6, 255}, {7, 4}, {7, 255}} {
		refused(t, "a byte of the head out of its range", with(plainOpen(odd, first(noughts(odd)), second(noughts(odd))), c.at, c.x), api.ErrRange)
	}
}

// P8.3: each bit of each word of each group: set, it is a code's, or no code has it.
func TestParseStrayBits(t *testing.T) {
	for _, h := range []Head{small, odd, wide, {2, 4, 3, 9, 0, 0, 0}, {8, 8, 9, 9, 0, 0, 0}, {4, 2, 16, 3, 0, 0, 0}, {8, 4, 3, 16, 1, 1, 1}} {
		open := plainOpen(h, first(noughts(h)), second(noughts(h)))
		check := func(at, codes, bits int) int {
			words := (codes*bits + 63) / 64
			for bit := range words * 64 {
				want := api.OK
				if bit >= codes*bits {
					want = api.ErrForm
				}
				place := at + 8 + bit/64*8 + 7 - bit%64/8
				refused(t, "a bit", with(open, place, open[place]|1<<(bit%8)), want)
			}
			return at + 8 + words*8
		}
		at := 9
		for range h.Dim {
			at = check(at, h.Tokens, h.KeyBits)
		}
		for range h.Tokens {
			at = check(at, h.Dim, h.ValueBits)
		}
		if at != len(open) {
			t.Fatalf("%d bytes, not %d", len(open), at)
		}
	}
}

// P8.3: Scales at their ends in each group, beside codes of 0 and others.
func TestParseScale(t *testing.T) {
	for _, h := range []Head{small, odd, wide, {2, 4, 3, 9, 0, 0, 0}} {
		for i := range h.Dim + h.Tokens {
			for _, scale := range []uint32{0, 1, 1 << 16, 1 << 24, 1 << 30, most - 1, most, most + 1, 1 << 31, whole} {
				for _, code := range []int{0, 1, 3} {
					want := api.OK
					if scale > most || scale == 0 && code != 0 {
						want = api.ErrScale
					}
					refused(t, "a Scale, and the first code", oneGroup(h, i, scale, true, code), want)
					refused(t, "a Scale, and the last code", oneGroup(h, i, scale, false, code), want)
				}
			}
		}
	}
}

// oneGroup are a page's bytes, without their sum, of which one group has this Scale, and this code as its first or its last one.
func oneGroup(h Head, i int, scale uint32, atFirst bool, code int) []byte {
	keys, values := noughts(h)
	groups := keys
	if i >= h.Dim {
		groups, i = values, i-h.Dim
	}
	place := len(groups[i].Codes) - 1
	if atFirst {
		place = 0
	}
	groups[i].Scale, groups[i].Codes[place] = scale, code
	return plainOpen(h, keys, values)
}

// P8.3: of several groups that are wrong the first one is told, and of one that is wrong twice its bits.
func TestParseOrder(t *testing.T) {
	h := Head{KeyBits: 4, ValueBits: 2, Tokens: 3, Dim: 2, Layer: 1, Head: 1, Index: 513}
	open := plainOpen(h, first(noughts(h)), second(noughts(h)))
	n := h.Dim + h.Tokens
	stray := func(b []byte, i int) []byte { return with(b, 9+16*i+8, 0x80) }
	great := func(b []byte, i int) []byte { return with(b, 9+16*i+4, 0x80) }
	nought := func(b []byte, i int) []byte { return with(with(b, 9+16*i+7, 0), 9+16*i+15, 1) }
	for i := range n {
		refused(t, "bits", stray(open, i), api.ErrForm)
		refused(t, "Scale", great(open, i), api.ErrScale)
		refused(t, "Scale of 0", nought(open, i), api.ErrScale)
		refused(t, "bits and Scale", great(stray(open, i), i), api.ErrForm)
		refused(t, "bits and Scale of 0", nought(stray(open, i), i), api.ErrForm)
		for k := i + 1; k < n; k++ {
			refused(t, "bits, then Scale", great(stray(open, i), k), api.ErrForm)
			refused(t, "Scale, then bits", stray(great(open, i), k), api.ErrScale)
			refused(t, "Scale of 0, then bits", stray(nought(open, i), k), api.ErrScale)
			refused(t, "bits, then Scale of 0", nought(stray(open, i), k), api.ErrForm)
		}
	}
}

// P8.3: a byte that is another one, the sum's among them.
func TestParseSeal(t *testing.T) {
	r := rand.New(rand.NewSource(11))
	for _, h := range []Head{small, odd, wide} {
		keys, values := edgeGroups(r, h)
		b := plainSealed(plainOpen(h, keys, values))
		for at := range b {
			for _, x := range []byte{1, 2, 4, 0x80, 0xff, byte(1 + r.Intn(255))} {
				if p, e := Parse(with(b, at, b[at]^x)); p != nil || e != api.ErrSeal {
					t.Fatalf("Parse of %v, byte %d: %d", h, at, e)
				}
			}
		}
	}
}

// P8.4: a page is read from its bytes again, the same; made by groups, by numbers or by bytes.
func TestAgain(t *testing.T) {
	r := rand.New(rand.NewSource(12))
	for _, h := range heads() {
		keys, values := edgeGroups(r, h)
		p, _ := New(h, keys, values)
		q, _ := Quantize(h, numbers(r, h.Tokens, h.Dim), numbers(r, h.Tokens, h.Dim))
		for _, x := range []*Page{p, q} {
			b := x.Bytes()
			y, e := Parse(b)
			if e != api.OK || !slices.Equal(y.Bytes(), b) {
				t.Fatalf("Parse of %v: %d", h, e)
			}
			checkPage(t, y, x.Head(), x.KeyGroups(), x.ValueGroups())
			if !sameLists(y.Keys(), x.Keys()) || !sameLists(y.Values(), x.Values()) {
				t.Fatalf("Parse of %v: other numbers", h)
			}
			z, e := New(x.Head(), x.KeyGroups(), x.ValueGroups())
			if e != api.OK || !slices.Equal(z.Bytes(), b) {
				t.Fatalf("New of a page's groups, %v: %d", h, e)
			}
		}
	}
}

// P8.4, P1: of any bytes what is read has just these, and nothing panics; sealed ones about pages, a few of their bytes others.
func TestAnyBytes(t *testing.T) {
	r := rand.New(rand.NewSource(13))
	all := append(heads(), small, odd, wide)
	read := 0
	for range 40000 {
		h := all[r.Intn(len(all))]
		open := plainOpen(h, first(edgeGroups(r, h)), second(edgeGroups(r, h)))
		for range r.Intn(3) {
			open[r.Intn(len(open))] = byte(r.Intn(256))
		}
		if r.Intn(8) == 0 {
			open = open[:r.Intn(len(open)+1)]
		}
		b := plainSealed(open)
		if r.Intn(16) == 0 {
			b[r.Intn(len(b))] ^= 16
		}
		p, e := Parse(b)
		if (p == nil) != (e != api.OK) || p != nil && !slices.Equal(p.Bytes(), b) {
			t.Fatalf("Parse(%x): %d", b, e)
		}
		if p != nil {
			read++
			if q, e := New(p.Head(), p.KeyGroups(), p.ValueGroups()); e != api.OK || !slices.Equal(q.Bytes(), b) {
				t.Fatalf("New of what was read: %d", e)
			}
		}
	}
	if read < 5000 {
		t.Errorf("only %d were read", read)
	}
	for range 5000 {
		b := make([]byte, r.Intn(60))
		r.Read(b)
		Parse(b)
		refusedOrOwn(t, seal.Close(b))
		refusedOrOwn(t, seal.Close(append([]byte{'K', 2, 4, 1, 1}, b...)))
	}
}

// refusedOrOwn asks that bytes are refused, or are those of what was read.
func refusedOrOwn(t *testing.T, b []byte) {
	t.Helper()
	if p, e := Parse(b); (p == nil) != (e != api.OK) || p != nil && !slices.Equal(p.Bytes(), b) {
		t.Fatalf("Parse(%x): %d", b, e)
	}
}

// roomy makes a list with spare room behind it, and tells both.
func roomy[T any](l []T, spare T) (list, all []T) {
	all = append(slices.Clone(l), of(3, spare)...)
	return all[:len(l)], all
}

// spoil writes over all that a list has, its spare room too.
func spoil[T any](l []T, x T) {
	l = l[:cap(l)]
	for i := range l {
		l[i] = x
	}
}

// spoilGroups writes over groups and their codes.
func spoilGroups(groups []group.Group) {
	for _, g := range groups {
		spoil(g.Codes, 1)
	}
	spoil(groups, group.Group{Zero: 99, Scale: 98, Codes: []int{1}})
}

// spoilLists writes over lists and what they have.
func spoilLists(lists [][]int32) {
	for _, x := range lists {
		spoil(x, 99)
	}
	spoil(lists, []int32{98})
}

// apart writes over one list after the other, and asks whether all others stay as they are.
func apart[T comparable](lists [][]T, x T) bool {
	for i := range lists {
		var old [][]T
		for _, l := range lists {
			old = append(old, slices.Clone(l))
		}
		spoil(lists[i], x)
		for j, l := range lists {
			if j != i && !slices.Equal(l, old[j]) {
				return false
			}
		}
	}
	return true
}

// codesOf are the codes of groups, the lists themselves.
func codesOf(groups []group.Group) [][]int {
	var l [][]int
	for _, g := range groups {
		l = append(l, g.Codes)
	}
	return l
}

// spoilTold writes over all that a page tells: no list of it may touch another one, or the page.
func spoilTold(t *testing.T, p *Page, h Head, keys, values []group.Group) {
	t.Helper()
	k, v, lk, lv, b := p.KeyGroups(), p.ValueGroups(), p.Keys(), p.Values(), p.Bytes()
	if !apart(append(codesOf(k), codesOf(v)...), -1) || !apart(append(slices.Clone(lk), lv...), 99) {
		t.Fatalf("page of %v: two lists share memory", h)
	}
	spoilGroups(k)
	spoilGroups(v)
	spoilLists(lk)
	spoilLists(lv)
	spoil(b, 0xee)
	checkPage(t, p, h, keys, values)
}

// DOC.md's rule of memory: what is handed in stays as it is, and isn't kept; what is told is new.
func TestMemory(t *testing.T) {
	r := rand.New(rand.NewSource(14))
	for _, h := range append(heads(), small, odd, wide) {
		keys, values := edgeGroups(r, h)
		checkNewMemory(t, h, keys, values)
		checkQuantizeMemory(t, h, numbers(r, h.Tokens, h.Dim), numbers(r, h.Tokens, h.Dim))
		b, all := roomy(plainSealed(plainOpen(h, keys, values)), 0xaa)
		kept := slices.Clone(all)
		p, e := Parse(b)
		if e != api.OK || !slices.Equal(all, kept) {
			t.Fatalf("Parse of %v: %d, or it changed what it was handed", h, e)
		}
		spoil(all, 0xbb)
		spoilTold(t, p, h, keys, values)
	}
}

// roomyGroups makes groups with spare room, of theirs and of their codes.
func roomyGroups(groups []group.Group) (list, all []group.Group) {
	groups = copied(groups)
	for i := range groups {
		groups[i].Codes, _ = roomy(groups[i].Codes, 111)
	}
	return roomy(groups, group.Group{Zero: 5, Codes: []int{111}})
}

// spareStays asks whether groups, and their spare room, are as roomyGroups made them.
func spareStays(all, groups []group.Group) bool {
	for i, g := range all {
		if i < len(groups) && (!sameGroups(all[i:i+1], groups[i:i+1]) || !slices.Equal(g.Codes[len(g.Codes):len(g.Codes)+3], of(3, 111))) {
			return false
		}
		if i >= len(groups) && (g.Zero != 5 || !slices.Equal(g.Codes, []int{111})) {
			return false
		}
	}
	return true
}

func checkNewMemory(t *testing.T, h Head, keys, values []group.Group) {
	t.Helper()
	k, allKeys := roomyGroups(keys)
	v, allValues := roomyGroups(values)
	p, e := New(h, k, v)
	if e != api.OK || !spareStays(allKeys, keys) || !spareStays(allValues, values) {
		t.Fatalf("New of %v: %d, or it changed what it was handed", h, e)
	}
	spoilGroups(k)
	spoilGroups(v)
	spoilTold(t, p, h, keys, values)
}

func checkQuantizeMemory(t *testing.T, h Head, keys, values [][]int32) {
	t.Helper()
	lists := append(slices.Clone(keys), values...)
	whole := make([][]int32, len(lists))
	for i, x := range lists {
		lists[i], whole[i] = roomy(x, 111)
	}
	p, e := Quantize(h, lists[:h.Tokens], lists[h.Tokens:])
	if e != api.OK {
		t.Fatalf("Quantize of %v: %d", h, e)
	}
	for i, x := range append(slices.Clone(keys), values...) {
		if !slices.Equal(whole[i], append(slices.Clone(x), 111, 111, 111)) {
			t.Fatalf("Quantize of %v changed what it was handed", h)
		}
	}
	k, v := grouped(t, columns(keys), h.KeyBits), grouped(t, values, h.ValueBits)
	spoilLists(lists)
	spoilTold(t, p, h, k, v)
}

// What is refused leaves what it is handed, and nothing for the next call.
func TestRefusedLeavesAll(t *testing.T) {
	good, e := New(odd, first(noughts(odd)), second(noughts(odd)))
	if e != api.OK {
		t.Fatalf("New: %d", e)
	}
	want := good.Bytes()
	keys, values := noughts(odd)
	keys[4].Codes[2], values[0].Scale = 16, whole
	oldKeys, oldValues := copied(keys), copied(values)
	for _, h := range []Head{odd, small, {}} {
		if p, e := New(h, keys, values); p != nil || e == api.OK {
			t.Errorf("New of %v: %d", h, e)
		}
		if !sameGroups(keys, oldKeys) || !sameGroups(values, oldValues) {
			t.Fatalf("New of %v changed what it was handed", h)
		}
	}
	b := with(want, 20, want[20]+1)
	old := slices.Clone(b)
	if p, e := Parse(b); p != nil || e != api.ErrSeal || !slices.Equal(b, old) {
		t.Errorf("Parse: %d", e)
	}
	lists := [][]int32{{1, 2}, {3}}
	if p, e := Quantize(Head{KeyBits: 2, ValueBits: 2, Tokens: 2, Dim: 2}, lists, lists); p != nil || e != api.ErrShape || !sameLists(lists, [][]int32{{1, 2}, {3}}) {
		t.Errorf("Quantize: %d", e)
	}
	if !slices.Equal(good.Bytes(), want) {
		t.Errorf("Bytes, once more: %x", good.Bytes())
	}
}

// The chapter's example: 9 bytes of a head, 16 and 16 of groups, 4 of the sum.
func TestExample(t *testing.T) {
	p, e := Quantize(small, [][]int32{{0}}, [][]int32{{0}})
	if e != api.OK || Size(small) != 9+16+16+4 {
		t.Fatalf("Quantize: %d, Size: %d", e, Size(small))
	}
	want := append([]byte("K\x02\x02\x01\x01\x00\x00\x00\x00"), of(32, byte(0))...)
	if b := p.Bytes(); len(b) != 45 || !slices.Equal(b, plainSealed(want)) {
		t.Errorf("Bytes: %x", b)
	}
}
