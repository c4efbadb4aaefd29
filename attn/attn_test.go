package attn

import (
	"bytes"
	"math"
	"math/big"
	"math/rand"
	"slices"
	"testing"

	"credenza/api"
	"credenza/cache"
	"credenza/page"
	"credenza/pool"
	"credenza/tier"
)

const (
	top  = int32(math.MaxInt32)
	low  = int32(math.MinInt32)
	most = int32(api.Narrow)
	one  = int32(api.One)
	far  = math.MaxInt
	deep = math.MinInt
)

// of makes a list of n times x.
func of[T any](n int, x T) []T { return slices.Repeat([]T{x}, n) }

// with is the same list, but for x at a place.
func with[T any](list []T, place int, x T) []T {
	l := slices.Clone(list)
	l[place] = x
	return l
}

// some makes n numbers, of all sizes.
func some(r *rand.Rand, n int) []int32 {
	l := make([]int32, n)
	for i := range l {
		l[i] = int32(r.Uint32()) >> r.Intn(32)
	}
	return l
}

// near makes n numbers that are so small that no score is far above another one.
func near(r *rand.Rand, n int) []int32 {
	l := make([]int32, n)
	for i := range l {
		l[i] = r.Int31n(2*one) - one
	}
	return l
}

// lists makes n lists of dim numbers, by either of these.
func lists(r *rand.Rand, n, dim int, numbers func(r *rand.Rand, n int) []int32) [][]int32 {
	all := make([][]int32, n)
	for i := range all {
		all[i] = numbers(r, dim)
	}
	return all
}

// copied is the same lists, of their own.
func copied(all [][]int32) [][]int32 {
	c := make([][]int32, len(all))
	for i, x := range all {
		c[i] = slices.Clone(x)
	}
	return c
}

func same(a, b [][]int32) bool { return slices.EqualFunc(a, b, slices.Equal) }

// number is x as a number of any size.
func number[T int | int32 | int64](x T) *big.Int { return big.NewInt(int64(x)) }

// power is 2^n.
func power(n uint) *big.Int { return new(big.Int).Lsh(number(1), n) }

// rounded is a by b, which is above 0: the nearest whole number, of two that are as near the even one.
func rounded(a, b *big.Int) *big.Int {
	twice := new(big.Int).Add(new(big.Int).Lsh(a, 1), b)
	nearest, rest := new(big.Int).DivMod(twice, new(big.Int).Lsh(b, 1), new(big.Int))
	if rest.Sign() == 0 && nearest.Bit(0) == 1 {
		nearest.Sub(nearest, number(1))
	}
	return nearest
}

// cut is the nearest number from least to most.
func cut(x *big.Int, least, most int64) *big.Int {
	switch {
	case x.Cmp(number(least)) < 0:
		return number(least)
	case x.Cmp(number(most)) > 0:
		return number(most)
	}
	return x
}

func wideOf(x *big.Int) *big.Int { return cut(x, -1<<31, 1<<31-1) }

func narrowOf(x *big.Int) *big.Int { return cut(x, -1<<23, 1<<23) }

// scoreOf is the chapter's score, in numbers of any size.
func scoreOf(q, k []int32) int64 {
	sum := new(big.Int)
	for i := range q {
		sum.Add(sum, new(big.Int).Mul(narrowOf(number(q[i])), narrowOf(number(k[i]))))
	}
	part := wideOf(rounded(sum, power(16)))
	root := new(big.Int).Sqrt(new(big.Int).Div(power(48), number(len(q)*api.One)))
	return wideOf(rounded(part.Mul(part, root), power(16))).Int64()
}

// powerOf is the power of x, which isn't above 0, by chapter 2's words.
func powerOf(x int64) int64 {
	t := rounded(number(x*94548), power(16)).Int64()
	n, f := t>>16, t&0xffff
	p := 1<<16 + (f*(45613+((f*(14743+((f*5180)>>16)))>>16)))>>16
	if -n > 62 {
		return 0
	}
	return rounded(number(p), power(uint(-n))).Int64()
}

// gatherOf is what a query gathers of lists that are right, by the words of the chapters 4 and 14, in numbers of any size.
func gatherOf(q []int32, keys, values [][]int32) []int32 {
	scores := make([]int64, len(keys))
	for i, k := range keys {
		scores[i] = scoreOf(q, k)
	}
	greatest, whole := slices.Max(scores), new(big.Int)
	sums := make([]*big.Int, len(q))
	for place := range sums {
		sums[place] = new(big.Int)
	}
	for i, s := range scores {
		weight := number(powerOf(max(s-greatest, -1<<31)))
		whole.Add(whole, weight)
		for place, x := range values[i] {
			sums[place].Add(sums[place], new(big.Int).Mul(weight, narrowOf(number(x))))
		}
	}
	mean := make([]int32, len(q))
	for place, sum := range sums {
		mean[place] = int32(narrowOf(rounded(sum, whole)).Int64())
	}
	return mean
}

// made makes a page of these tokens.
func made(t *testing.T, keyBits, valueBits int, keys, values [][]int32) *page.Page {
	t.Helper()
	h := page.Head{KeyBits: keyBits, ValueBits: valueBits, Tokens: len(keys), Dim: len(keys[0])}
	p, e := page.Quantize(h, keys, values)
	if e != api.OK {
		t.Fatalf("a page of %v: %d", h, e)
	}
	return p
}

// pagesOf makes n pages of so many tokens, of any numbers.
func pagesOf(t *testing.T, r *rand.Rand, n, tokens, dim int) []*page.Page {
	t.Helper()
	bits := []int{2, 4, 8}
	pages := make([]*page.Page, n)
	for i := range pages {
		pages[i] = made(t, bits[r.Intn(3)], bits[r.Intn(3)], lists(r, tokens, dim, near), lists(r, tokens, dim, some))
	}
	return pages
}

// meant is what pages mean, page by page, and then the keys and values.
func meant(pages []*page.Page, keys, values [][]int32) (allKeys, allValues [][]int32) {
	for _, p := range pages {
		allKeys, allValues = append(allKeys, p.Keys()...), append(allValues, p.Values()...)
	}
	return append(allKeys, keys...), append(allValues, values...)
}

// gathers asks that Gather tells what the chapter's words do.
func gathers(t *testing.T, q []int32, keys, values [][]int32) {
	want := gatherOf(q, keys, values)
	if l, e := Gather(q, keys, values); e != api.OK || !slices.Equal(l, want) {
		t.Helper()
		t.Fatalf("Gather(%v) of %d tokens: %v, %d, not %v", q, len(keys), l, e, want)
	}
}

// fuses asks that Fused tells what Gather, and the chapter's words, do of the lists that all of it means.
func fuses(t *testing.T, q []int32, pages []*page.Page, keys, values [][]int32) {
	allKeys, allValues := meant(pages, keys, values)
	gathers(t, q, allKeys, allValues)
	want, _ := Gather(q, allKeys, allValues)
	if l, e := Fused(q, pages, keys, values); e != api.OK || !slices.Equal(l, want) {
		t.Helper()
		t.Fatalf("Fused(%v) of %d pages and %d tokens: %v, %d, not %v", q, len(pages), len(keys), l, e, want)
	}
}

// refuses asks that Gather, and Fused without pages, tell this error, and nothing beside it.
func refuses(t *testing.T, q []int32, keys, values [][]int32, want api.Errno) {
	l, e := Gather(q, keys, values)
	f, fe := Fused(q, nil, keys, values)
	if len(l) != 0 || e != want || len(f) != 0 || fe != want {
		t.Helper()
		t.Fatalf("%d numbers, %d keys, %d values: %v, %d and %v, %d, not %d", len(q), len(keys), len(values), l, e, f, fe, want)
	}
}

// refusesPages asks that Fused tells this error, and nothing beside it.
func refusesPages(t *testing.T, q []int32, pages []*page.Page, keys, values [][]int32, want api.Errno) {
	if l, e := Fused(q, pages, keys, values); len(l) != 0 || e != want {
		t.Helper()
		t.Fatalf("%d numbers, %d pages, %d keys, %d values: %v, %d, not %d", len(q), len(pages), len(keys), len(values), l, e, want)
	}
}

// P14.1: ordinary numbers, those beyond the narrow range, halves, and what is cut to the wide range.
func TestScore(t *testing.T) {
	// By One in a list of one number each product is the number itself.
	for i, c := range []struct {
		q, k []int32
		want int32
	}{
		{[]int32{0}, []int32{5 * one}, 0}, {[]int32{one}, []int32{one}, one}, {[]int32{3 * one}, []int32{-2 * one}, -6 * one}, {[]int32{-one / 2}, []int32{-one}, one / 2},
		{[]int32{one}, []int32{1}, 1}, {[]int32{one}, []int32{-1}, -1}, {[]int32{one}, []int32{12345}, 12345},
		{[]int32{most - 1}, []int32{one}, most - 1}, {[]int32{most}, []int32{one}, most}, {[]int32{most + 1}, []int32{one}, most}, {[]int32{top}, []int32{one}, most},
		{[]int32{1 - most}, []int32{one}, 1 - most}, {[]int32{-most}, []int32{one}, -most}, {[]int32{-most - 1}, []int32{one}, -most}, {[]int32{low}, []int32{one}, -most},
		{[]int32{one}, []int32{most + 1}, most}, {[]int32{one}, []int32{top}, most}, {[]int32{one}, []int32{-most - 1}, -most}, {[]int32{one}, []int32{low}, -most},
		{[]int32{top}, []int32{top}, 1 << 30}, {[]int32{low}, []int32{top}, -1 << 30}, {[]int32{top}, []int32{low}, -1 << 30}, {[]int32{low}, []int32{low}, 1 << 30},

		// The sum is 1/2, 3/2, 5/2 of 2^16, then a bit less and a bit more.
		{[]int32{one / 2}, []int32{1}, 0}, {[]int32{one / 2}, []int32{3}, 2}, {[]int32{one / 2}, []int32{5}, 2}, {[]int32{one / 2}, []int32{7}, 4},
		{[]int32{one / 2}, []int32{-1}, 0}, {[]int32{one / 2}, []int32{-3}, -2}, {[]int32{one / 2}, []int32{-5}, -2}, {[]int32{-one / 2}, []int32{7}, -4},
		{[]int32{one/2 - 1}, []int32{1}, 0}, {[]int32{one/2 + 1}, []int32{1}, 1}, {[]int32{1 - one/2}, []int32{1}, 0}, {[]int32{-1 - one/2}, []int32{1}, -1},
		{[]int32{one / 2, 1, 0, 0}, []int32{1, 1, 0, 0}, 0}, {[]int32{one / 2, one / 2, one / 2, one / 2}, []int32{1, 1, 1, 3}, 2},

		// The reciprocal root of 4 is a half: of 1, 3, 5 and 7 there is one to be rounded.
		{[]int32{one, 0, 0, 0}, []int32{1, 9, 9, 9}, 0}, {[]int32{one, 0, 0, 0}, []int32{3, 9, 9, 9}, 2}, {[]int32{0, one, 0, 0}, []int32{9, 5, 9, 9}, 2}, {[]int32{0, 0, 0, one}, []int32{9, 9, 9, 7}, 4},
		{[]int32{one, 0, 0, 0}, []int32{-1, 9, 9, 9}, 0}, {[]int32{one, 0, 0, 0}, []int32{-3, 9, 9, 9}, -2}, {[]int32{0, one, 0, 0}, []int32{9, -5, 9, 9}, -2}, {[]int32{0, 0, 0, one}, []int32{9, 9, 9, -7}, -4},

		// Those of 2, 3, 5 and 16 are 46340, 37837, 29308 and 16384.
		{of(2, one), of(2, one/2), 46340}, {of(2, one), of(2, one), 92680}, {[]int32{one, 0, 0}, []int32{one, 5, 5}, 37837}, {[]int32{-one, 0, 0, 0, 0}, of(5, one), -29308},
		{of(16, one), of(16, one), 4 * one}, {of(16, one), of(16, -one), -4 * one}, {with(of(16, int32(0)), 15, one), of(16, one), one / 4},

		// Two such products are 2^31, one more than there is; below 0 that is there.
		{of(2, top), of(2, top), 1518469119}, {of(2, most), []int32{most, most - 1}, 1518469029}, {of(2, top), of(2, low), -1518469120},
		{of(3, top), of(3, top), 1239842815}, {of(3, low), of(3, top), -1239842816}, {of(4, most), of(4, most), 1 << 30}, {of(4, most), of(4, -most), -1 << 30},
		{of(16, top), of(16, top), 1 << 29}, {of(16, low), of(16, low), 1 << 29}, {of(16, low), of(16, top), -1 << 29},
		{[]int32{top, low, 0}, []int32{top, top, 0}, 0}, {[]int32{top, top, low}, []int32{top, top, top}, 619921408},
	} {
		if int64(c.want) != scoreOf(c.q, c.k) {
			t.Errorf("score %d: %d, reckoned: %d", i, c.want, scoreOf(c.q, c.k))
		}
		if s, e := Score(c.q, c.k); s != c.want || e != api.OK {
			t.Errorf("Score %d: %d, %d, not %d", i, s, e, c.want)
		}
	}
}

// P14.1: lists of all lengths by all lengths: only those from 1 to MaxDim, which are alike, have a score.
func TestScoreShape(t *testing.T) {
	for a := range 2*api.MaxDim + 2 {
		for b := range 2*api.MaxDim + 2 {
			want, e := int32(0), api.ErrShape
			if a == b && a >= 1 && a <= api.MaxDim {
				want, e = int32(scoreOf(of(a, one), of(b, 3*one))), api.OK
			}
			if s, got := Score(of(a, one), of(b, 3*one)); s != want || got != e {
				t.Errorf("Score of %d and %d: %d, %d, not %d, %d", a, b, s, got, want, e)
			}
		}
	}
	for i, c := range []struct{ q, k []int32 }{
		{nil, nil}, {nil, []int32{}}, {[]int32{}, nil}, {[]int32{}, []int32{}}, {nil, []int32{1}}, {[]int32{1}, nil},
		{of(3, one)[:0], of(3, one)[:0]}, {of(2000, one), of(2000, one)}, {of(16, one), of(17, one)}, {of(17, top), of(16, low)},
	} {
		if s, e := Score(c.q, c.k); s != 0 || e != api.ErrShape {
			t.Errorf("Score %d: %d, %d", i, s, e)
		}
	}
}

// P14.1: long rows of lists of each length, by the chapter's words.
func TestScoreEach(t *testing.T) {
	r := rand.New(rand.NewSource(14))
	for dim := 1; dim <= api.MaxDim; dim++ {
		for k := range 400 {
			a, b := some(r, dim), some(r, dim)
			if k%4 == 0 {
				a, b = near(r, dim), near(r, dim)
			}
			want := scoreOf(a, b)
			if s, e := Score(a, b); int64(s) != want || e != api.OK {
				t.Fatalf("Score(%v, %v): %d, %d, not %d", a, b, s, e, want)
			}
			if s, e := Score(b, a); int64(s) != want || e != api.OK {
				t.Fatalf("Score(%v, %v): %d, %d, not %d", b, a, s, e, want)
			}
		}
	}
}

// P14.1: tokens that are told by hand.
func TestGather(t *testing.T) {
	for i, c := range []struct {
		q            []int32
		keys, values [][]int32
		want         []int32
	}{
		// One token: its value, whatever the key is, cut.
		{[]int32{5}, [][]int32{{9}}, [][]int32{{-3}}, []int32{-3}}, {[]int32{low, top}, [][]int32{{top, low}}, [][]int32{{7, 8}}, []int32{7, 8}},
		{[]int32{0, 0, 0}, [][]int32{{0, 0, 0}}, [][]int32{{most, most + 1, top}}, []int32{most, most, most}}, {[]int32{one, 1, 1}, [][]int32{{9, 8, 7}}, [][]int32{{-most, -most - 1, low}}, []int32{-most, -most, -most}},
		{of(16, one), [][]int32{of(16, one)}, [][]int32{with(of(16, int32(3)), 15, 4)}, with(of(16, int32(3)), 15, 4)},

		// Scores that are alike: the middle, halves to the even one.
		{[]int32{0}, [][]int32{{9}, {-9}}, [][]int32{{2}, {4}}, []int32{3}}, {[]int32{7}, of(2, []int32{3}), [][]int32{{1}, {2}}, []int32{2}}, {[]int32{7}, of(2, []int32{3}), [][]int32{{2}, {3}}, []int32{2}},
		{[]int32{7}, of(2, []int32{3}), [][]int32{{-1}, {-2}}, []int32{-2}}, {[]int32{7}, of(2, []int32{3}), [][]int32{{-2}, {-3}}, []int32{-2}}, {[]int32{7}, of(2, []int32{3}), [][]int32{{0}, {1}}, []int32{0}},
		{[]int32{one}, of(3, []int32{one}), [][]int32{{1}, {2}, {5}}, []int32{3}}, {[]int32{one, one}, [][]int32{{one, 0}, {0, one}}, [][]int32{{10, 0}, {20, 1}}, []int32{15, 0}},
		{[]int32{one}, of(4, []int32{-one}), of(4, []int32{-77}), []int32{-77}},

		// A score that is 1 below: its weight is 24108.
		{[]int32{one}, [][]int32{{one}, {0}}, [][]int32{{0}, {65536 + 24108}}, []int32{24108}}, {[]int32{one}, [][]int32{{0}, {one}}, [][]int32{{0}, {65536 + 24108}}, []int32{65536}},
		{[]int32{-one}, [][]int32{{one}, {0}}, [][]int32{{0}, {65536 + 24108}}, []int32{65536}}, {[]int32{one}, [][]int32{{-5 * one}, {-6 * one}}, [][]int32{{-65536 - 24108}, {0}}, []int32{-65536}},

		// One far above all others, first, in the middle and last.
		{[]int32{100 * one}, [][]int32{{one}, {-one}}, [][]int32{{2}, {4}}, []int32{2}}, {[]int32{100 * one}, [][]int32{{0}, {one}, {0}}, [][]int32{{2}, {4}, {6}}, []int32{4}},
		{[]int32{top}, [][]int32{{low}, {-one}, {top}}, [][]int32{{2}, {4}, {6}}, []int32{6}}, {of(2, top), [][]int32{{top, top}, {low, low}}, [][]int32{{1, 2}, {3, 4}}, []int32{1, 2}},

		// Values are cut first, and then the middle is told; and keys are cut first, so that these are alike.
		{[]int32{0}, of(2, []int32{0}), [][]int32{{top}, {0}}, []int32{most / 2}}, {[]int32{0}, of(2, []int32{0}), [][]int32{{low}, {0}}, []int32{-most / 2}}, {[]int32{0}, of(2, []int32{0}), [][]int32{{low}, {top}}, []int32{0}},
		{[]int32{100 * one}, [][]int32{{most}, {top}}, [][]int32{{2}, {4}}, []int32{3}}, {[]int32{-100 * one}, [][]int32{{-most}, {low}}, [][]int32{{2}, {4}}, []int32{3}},
	} {
		if l, e := Gather(c.q, c.keys, c.values); e != api.OK || !slices.Equal(l, c.want) {
			t.Errorf("Gather %d: %v, %d, not %v", i, l, e, c.want)
		}
		gathers(t, c.q, c.keys, c.values)
		fuses(t, c.q, nil, c.keys, c.values)
	}
}

// P14.1: the query is cut too: of one beyond the narrow range is told what is told of its end.
func TestGatherCut(t *testing.T) {
	r := rand.New(rand.NewSource(15))
	for range 50 {
		keys, values := lists(r, 6, 3, near), lists(r, 6, 3, some)
		for i := range keys {
			keys[i][1] >>= 12
		}
		for _, x := range []int32{most + 1, top, -most - 1, low} {
			end := most
			if x < 0 {
				end = -most
			}
			want, _ := Gather([]int32{one, end, 0}, keys, values)
			if l, e := Gather([]int32{one, x, 0}, keys, values); e != api.OK || !slices.Equal(l, want) {
				t.Fatalf("Gather with %d: %v, %d, not %v", x, l, e, want)
			}
			gathers(t, []int32{one, x, 0}, keys, values)
		}
	}
}

// P14.1: a key, a value or the query that has one number fewer or more, or none, or more than MaxDim, at the first, a middle and the last token.
func TestGatherShape(t *testing.T) {
	for _, dim := range []int{1, 2, 15, 16} {
		for _, n := range []int{1, 2, 3, 40, api.MaxLength} {
			q, all := of(dim, one), of(n, of(dim, one))
			if l, e := Gather(q, all, all); e != api.OK || !slices.Equal(l, q) {
				t.Errorf("%d tokens of %d numbers: %v, %d", n, dim, l, e)
			}
			for _, numbers := range []int{0, 1, dim - 1, dim + 1, 16, 17, 64} {
				if numbers == dim {
					continue
				}
				odd := of(numbers, one)
				refuses(t, odd, all, all, api.ErrShape)
				refuses(t, q, of(n, odd), of(n, odd), api.ErrShape)
				refuses(t, q, of(n, odd), all, api.ErrShape)
				refuses(t, q, all, of(n, odd), api.ErrShape)
				refuses(t, odd, of(n, odd), all, api.ErrShape)
				refuses(t, odd, all, of(n, odd), api.ErrShape)
				for _, token := range []int{0, n / 2, n - 1} {
					refuses(t, q, with(all, token, odd), all, api.ErrShape)
					refuses(t, q, all, with(all, token, odd), api.ErrShape)
					refuses(t, q, with(all, token, odd), with(all, token, odd), api.ErrShape)
					refuses(t, odd, with(all, token, odd), all, api.ErrShape)
				}
			}
			refuses(t, nil, all, all, api.ErrShape)
			refuses(t, q, with(all, n-1, nil), all, api.ErrShape)
			refuses(t, q, all, with(all, 0, nil), api.ErrShape)
		}
	}
}

// P14.1: all are alike, but of no number, or of more than MaxDim.
func TestGatherDim(t *testing.T) {
	for _, n := range []int{1, 2, api.MaxLength} {
		for dim := range 2*api.MaxDim + 2 {
			q, all := of(dim, one), of(n, of(dim, one))
			if dim < 1 || dim > api.MaxDim {
				refuses(t, q, all, all, api.ErrShape)
				continue
			}
			if l, e := Gather(q, all, all); e != api.OK || !slices.Equal(l, q) {
				t.Errorf("%d tokens of %d numbers: %v, %d", n, dim, l, e)
			}
		}
		refuses(t, nil, of[[]int32](n, nil), of[[]int32](n, nil), api.ErrShape)
		refuses(t, []int32{}, of[[]int32](n, nil), of(n, []int32{}), api.ErrShape)
		refuses(t, of(2000, one), of(n, of(2000, one)), of(n, of(2000, one)), api.ErrShape)
	}
}

// P14.1: how many keys and values there are; and where several are wrong, the first one is told.
func TestGatherCounts(t *testing.T) {
	q, full := []int32{one, -one}, api.MaxLength
	all := of(4*full, []int32{3, 4})
	for keys := range 6 {
		for values := range 6 {
			switch {
			case keys == 0:
				refuses(t, q, all[:keys], all[:values], api.ErrNone)
			case keys != values:
				refuses(t, q, all[:keys], all[:values], api.ErrShape)
			default:
				gathers(t, q, all[:keys], all[:values])
			}
		}
	}
	for _, none := range [][][]int32{nil, {}, all[:0]} {
		refuses(t, q, none, nil, api.ErrNone)
		refuses(t, q, none, [][]int32{}, api.ErrNone)
		refuses(t, q, none, all[:1], api.ErrNone)
		refuses(t, q, none, all, api.ErrNone)
		refuses(t, nil, none, nil, api.ErrNone)
		refuses(t, of(17, one), none, of(1, of(3, one)), api.ErrNone)
		refuses(t, q, all[:1], none, api.ErrShape)
		refuses(t, q, all[:full], none, api.ErrShape)
		refuses(t, q, all[:full+1], none, api.ErrMany)
	}
	refuses(t, q, all[:full+1], all[:full+1], api.ErrMany)
	refuses(t, q, all, all, api.ErrMany)
	refuses(t, q, all[:full+1], all[:full], api.ErrMany)
	refuses(t, q, all[:full+1], with(all[:full+1], 5, []int32{1}), api.ErrMany)
	refuses(t, q, with(all[:full+1], 0, []int32{1}), all[:full+1], api.ErrMany)
	refuses(t, []int32{one}, all[:full+1], all[:full+1], api.ErrMany)
	refuses(t, nil, of[[]int32](full+1, nil), nil, api.ErrMany)
	refuses(t, of(17, one), of(full+1, of(17, one)), of(full+1, of(17, one)), api.ErrMany)
	refuses(t, q, all[:full], all[:full+1], api.ErrShape)
	refuses(t, q, all[:full], all[:full-1], api.ErrShape)
	refuses(t, q, all[:full-1], all[:full], api.ErrShape)
	refuses(t, q, all[:1], all, api.ErrShape)
	gathers(t, q, all[:full-1], all[:full-1])
	gathers(t, q, all[:full], all[:full])
}

// P14.1: MaxLength tokens, of all that weighs most, and of one that weighs more than all others.
func TestGatherMost(t *testing.T) {
	r, full := rand.New(rand.NewSource(16)), api.MaxLength
	for _, x := range []int32{top, most, 1, 0, -1, -most, low} {
		gathers(t, of(16, x), of(full, of(16, x)), of(full, of(16, x)))
		gathers(t, []int32{x}, of(full, []int32{-x}), of(full, []int32{x}))
		gathers(t, []int32{one}, with(of(full, []int32{0}), full-1, []int32{8 * one}), with(of(full, []int32{low}), full-1, []int32{x}))
	}
	for k := range 4 {
		dim := 1 + 5*k
		gathers(t, near(r, dim), lists(r, full, dim, near), lists(r, full, dim, some))
		gathers(t, some(r, dim), lists(r, full, dim, some), lists(r, full, dim, some))
	}
}

// P14.1: long rows of lists of all lengths, by the chapter's words; each place is from the least to the greatest value there, cut.
func TestGatherEach(t *testing.T) {
	r := rand.New(rand.NewSource(17))
	for k := range 1500 {
		n, dim, numbers := 1+r.Intn(30), 1+r.Intn(16), near
		if k%3 == 0 {
			numbers = some
		}
		q, keys, values := numbers(r, dim), lists(r, n, dim, numbers), lists(r, n, dim, some)
		gathers(t, q, keys, values)
		l, _ := Gather(q, keys, values)
		for place, x := range l {
			least, greatest := most, -most
			for _, v := range values {
				cut := min(max(v[place], -most), most)
				least, greatest = min(least, cut), max(greatest, cut)
			}
			if x < least || x > greatest {
				t.Fatalf("place %d: %d isn't from %d to %d", place, x, least, greatest)
			}
		}
	}
}

// P14.2: pages of every bits, of 1 token and of the most, of Dim 1 and of MaxDim, of any numbers and of one alone: alone, and with lists behind them.
func TestFused(t *testing.T) {
	r := rand.New(rand.NewSource(18))
	bits := []int{2, 4, 8}
	for _, keyBits := range bits {
		for _, valueBits := range bits {
			for _, n := range []int{1, 2, 5, api.MaxTokens} {
				for _, dim := range []int{1, 2, 7, api.MaxDim} {
					any := made(t, keyBits, valueBits, lists(r, n, dim, near), lists(r, n, dim, near))
					wide := made(t, keyBits, valueBits, lists(r, n, dim, some), lists(r, n, dim, some))
					even := made(t, keyBits, valueBits, of(n, of(dim, one)), of(n, of(dim, -one)))
					ends := made(t, keyBits, valueBits, of(n, with(of(dim, top), 0, low)), of(n, with(of(dim, low), dim-1, top)))
					q, keys, values := near(r, dim), lists(r, 4, dim, near), lists(r, 4, dim, some)
					for _, p := range []*page.Page{any, wide, even, ends} {
						fuses(t, q, []*page.Page{p}, nil, nil)
						fuses(t, q, []*page.Page{p}, keys, values)
						fuses(t, some(r, dim), []*page.Page{p, p}, [][]int32{}, nil)
					}
					fuses(t, q, []*page.Page{any, wide, even, ends}, nil, [][]int32{})
					fuses(t, q, []*page.Page{ends, even, wide, any}, keys[:1], values[:1])
				}
			}
		}
	}
}

// P14.2: by hand: one page, one token behind it; and what a page means beyond the narrow range is cut.
func TestFusedPages(t *testing.T) {
	p := made(t, 8, 2, [][]int32{{one}, {-one}}, [][]int32{{10}, {40}})
	ends := made(t, 2, 8, [][]int32{{top}, {most}}, [][]int32{{top}, {0}})
	under := made(t, 4, 4, [][]int32{{low}, {-most}}, [][]int32{{low}, {0}})
	if ends.Key(0, 0) <= most || ends.Value(0, 0) <= most || under.Key(0, 0) >= -most || under.Value(0, 0) >= -most {
		t.Fatalf("the pages mean %v, %v, %v, %v", ends.Keys(), ends.Values(), under.Keys(), under.Values())
	}
	for i, c := range []struct {
		q            []int32
		pages        []*page.Page
		keys, values [][]int32
		want         int32
	}{
		{[]int32{0}, []*page.Page{p}, nil, nil, 25}, {[]int32{0}, []*page.Page{p}, [][]int32{{0}}, [][]int32{{100}}, 50}, {[]int32{0}, nil, [][]int32{{0}}, [][]int32{{100}}, 100},
		{[]int32{100 * one}, []*page.Page{p}, nil, nil, 10}, {[]int32{-100 * one}, []*page.Page{p}, nil, nil, 40}, {[]int32{100 * one}, []*page.Page{p, p}, nil, nil, 10},
		{[]int32{100 * one}, []*page.Page{p}, [][]int32{{2 * one}}, [][]int32{{7}}, 7}, {[]int32{100 * one}, []*page.Page{p}, [][]int32{{one / 2}}, [][]int32{{7}}, 10},
		{[]int32{one}, []*page.Page{ends}, nil, nil, most / 2}, {[]int32{0}, []*page.Page{ends, ends}, nil, nil, most / 2}, {[]int32{-one}, []*page.Page{under}, nil, nil, -most / 2}, {[]int32{0}, []*page.Page{under, ends}, nil, nil, 0},
	} {
		if l, e := Fused(c.q, c.pages, c.keys, c.values); e != api.OK || !slices.Equal(l, []int32{c.want}) {
			t.Errorf("Fused %d: %v, %d, not %d", i, l, e, c.want)
		}
		fuses(t, c.q, c.pages, c.keys, c.values)
	}
}

// P14.2: each token of several pages, and of the lists behind them, has its own value: a query that one key alone is for gathers just that.
func TestFusedEach(t *testing.T) {
	const dim = api.MaxDim
	r := rand.New(rand.NewSource(19))
	var pages []*page.Page
	var keys [][]int32
	for place := range dim {
		keys = append(keys, with(of(dim, int32(0)), place, 100*one))
	}
	values := lists(r, dim, dim, near)
	for i, tokens := range []int{3, 1, 5} {
		first := []int{0, 3, 4}[i]
		pages = append(pages, made(t, []int{2, 4, 8}[i], 8, keys[first:first+tokens], values[first:first+tokens]))
	}
	allKeys, allValues := meant(pages, keys[9:], values[9:])
	for place := range dim {
		q := with(of(dim, int32(0)), place, 100*one)
		if l, e := Fused(q, pages, keys[9:], values[9:]); e != api.OK || !slices.Equal(l, allValues[place]) {
			t.Errorf("token %d: %v, %d, not %v", place, l, e, allValues[place])
		}
		if len(allKeys) != dim || allKeys[place][place] < 90*one {
			t.Errorf("the pages' keys: %v", allKeys)
		}
	}
}

// P14.2: neither pages nor keys; pages of another Dim than the lists, than the query, or than the first page; fewer or more values than keys behind pages.
func TestFusedErrors(t *testing.T) {
	r := rand.New(rand.NewSource(20))
	two, three, wide := pagesOf(t, r, 3, 4, 2), pagesOf(t, r, 1, 4, 3)[0], pagesOf(t, r, 1, 4, 16)[0]
	q, all := []int32{one, 1}, of(5, []int32{3, 4})
	for _, none := range [][]*page.Page{nil, {}, two[:0]} {
		for _, keys := range [][][]int32{nil, {}, all[:0]} {
			for _, values := range [][][]int32{nil, {}, all[:1], all} {
				refusesPages(t, q, none, keys, values, api.ErrNone)
				refusesPages(t, nil, none, keys, values, api.ErrNone)
				refusesPages(t, of(17, one), none, keys, values, api.ErrNone)
			}
		}
	}
	for _, x := range [][]int32{nil, {}, {one}, of(3, one), of(16, one), of(17, one)} {
		refusesPages(t, x, two, nil, nil, api.ErrShape)
		refusesPages(t, x, two, all, all, api.ErrShape)
		refusesPages(t, x, two[:1], of(5, x), of(5, x), api.ErrShape)
		refusesPages(t, q, two, of(5, x), of(5, x), api.ErrShape)
		refusesPages(t, q, two, of(1, x), all[:1], api.ErrShape)
		refusesPages(t, q, two, all[:1], of(1, x), api.ErrShape)
		refusesPages(t, q, two, with(all, 4, x), all, api.ErrShape)
		refusesPages(t, q, two, all, with(all, 4, x), api.ErrShape)
	}
	for _, odd := range []*page.Page{three, wide} {
		for place := range two {
			refusesPages(t, q, with(two, place, odd), nil, nil, api.ErrShape)
			refusesPages(t, of(odd.Head().Dim, one), with(two, place, odd), nil, nil, api.ErrShape)
			refusesPages(t, q, with(two, place, odd), all, all, api.ErrShape)
		}
		refusesPages(t, q, []*page.Page{odd}, nil, nil, api.ErrShape)
		refusesPages(t, q, []*page.Page{odd}, all, all, api.ErrShape)
		refusesPages(t, of(odd.Head().Dim, one), []*page.Page{odd}, all, all, api.ErrShape)
		fuses(t, of(odd.Head().Dim, one), []*page.Page{odd}, nil, nil)
	}
	for keys := range 6 {
		for values := range 6 {
			if keys == values {
				fuses(t, q, two, all[:keys], all[:values])
				continue
			}
			refusesPages(t, q, two, all[:keys], all[:values], api.ErrShape)
			refusesPages(t, q, two[:1], all[:keys], all[:values], api.ErrShape)
		}
	}
}

// P14.2: MaxLength tokens, and more, by pages alone, and by pages and lists together; that there are too many is told ahead of another shape.
func TestFusedMany(t *testing.T) {
	r, full := rand.New(rand.NewSource(21)), api.MaxLength
	pages, odd := pagesOf(t, r, 70, 16, 2), pagesOf(t, r, 1, 1, 3)[0]
	small := pagesOf(t, r, 1, 1, 2)[0]
	q, all := []int32{one, 1}, of(2*full, []int32{3, 4})
	fuses(t, q, pages[:64], nil, nil)
	fuses(t, q, pages[:63], all[:16], all[:16])
	fuses(t, q, append(slices.Clone(pages[:63]), small), all[:15], all[:15])
	fuses(t, q, pages[:1], all[:full-16], all[:full-16])
	fuses(t, q, of(full, small), nil, nil)
	refusesPages(t, q, of(full+1, small), nil, nil, api.ErrMany)
	refusesPages(t, q, of(full, small), all[:1], all[:1], api.ErrMany)
	refusesPages(t, q, pages[:65], nil, nil, api.ErrMany)
	refusesPages(t, q, pages, nil, nil, api.ErrMany)
	refusesPages(t, q, of(5000, small), nil, nil, api.ErrMany)
	refusesPages(t, q, append(slices.Clone(pages[:64]), small), nil, nil, api.ErrMany)
	refusesPages(t, q, pages[:64], all[:1], all[:1], api.ErrMany)
	refusesPages(t, q, pages[:63], all[:17], all[:17], api.ErrMany)
	refusesPages(t, q, pages[:1], all[:full-15], all[:full-15], api.ErrMany)
	refusesPages(t, q, pages[:1], all[:full+1], all[:full+1], api.ErrMany)
	refusesPages(t, q, pages[:64], all[:1], nil, api.ErrMany)
	refusesPages(t, nil, pages[:65], nil, nil, api.ErrMany)
	refusesPages(t, of(17, one), pages[:65], nil, nil, api.ErrMany)
	refusesPages(t, q, append(slices.Clone(pages[:64]), odd), nil, nil, api.ErrMany)
	refusesPages(t, q, append([]*page.Page{odd}, pages[:64]...), nil, nil, api.ErrMany)
	refusesPages(t, q, pages[:64], [][]int32{{1}}, [][]int32{{1}}, api.ErrMany)
	// Values alone are no tokens: there are just as many keys as may be.
	refusesPages(t, q, pages[:64], nil, all[:1], api.ErrShape)
	refusesPages(t, q, pages[:63], all[:16], all[:17], api.ErrShape)
	refusesPages(t, []int32{one}, pages[:64], nil, nil, api.ErrShape)
	refusesPages(t, q, append([]*page.Page{odd}, pages[:63]...), all[:15], all[:15], api.ErrShape)
}

// P14.2: long rows of pages and lists, by the chapter's words.
func TestFusedLong(t *testing.T) {
	r := rand.New(rand.NewSource(22))
	for range 400 {
		dim := 1 + r.Intn(16)
		var pages []*page.Page
		for range r.Intn(5) {
			pages = append(pages, pagesOf(t, r, 1, 1+r.Intn(16), dim)...)
		}
		n := r.Intn(8)
		if len(pages) == 0 {
			n++
		}
		q := near(r, dim)
		if r.Intn(3) == 0 {
			q = some(r, dim)
		}
		fuses(t, q, pages, lists(r, n, dim, near), lists(r, n, dim, some))
	}
}

// P14.2: Fused makes no lists of a page's tokens: of many more tokens it takes hardly more memory.
func TestFusedLists(t *testing.T) {
	r := rand.New(rand.NewSource(23))
	q := near(r, 16)
	pages := pagesOf(t, r, 64, 16, 16)
	few := testing.AllocsPerRun(5, func() { Fused(q, pages[:1], nil, nil) })
	many := testing.AllocsPerRun(5, func() { Fused(q, pages, nil, nil) })
	if many > few+64 {
		t.Errorf("of 16 tokens %v pieces of memory, of 1024 %v", few, many)
	}
}

// shape makes a cache's shape: layers by their bits.
func shape(heads, dim, group, window int, layers ...tier.Bits) cache.Shape {
	return cache.Shape{Heads: heads, Dim: dim, Plan: tier.Plan{Group: group, Window: window, Layers: layers}}
}

// fresh makes a cache without tokens, over a pool of its own.
func fresh(t *testing.T, s cache.Shape) (*pool.Pool, *cache.Cache) {
	t.Helper()
	p, e := pool.New(api.MaxPages)
	if e != api.OK {
		t.Fatalf("a pool: %d", e)
	}
	c, e := cache.New(p, s)
	if e != api.OK {
		t.Fatalf("a cache of %v: %d", s, e)
	}
	return p, c
}

// putLayer puts a token of one layer, of any numbers.
func putLayer(t *testing.T, r *rand.Rand, c *cache.Cache, layer int) {
	t.Helper()
	s := c.Shape()
	if e := c.Put(layer, lists(r, s.Heads, s.Dim, near), lists(r, s.Heads, s.Dim, some)); e != api.OK {
		t.Fatalf("a token of the layer %d: %d", layer, e)
	}
}

// put puts tokens of all layers.
func put(t *testing.T, r *rand.Rand, c *cache.Cache, tokens int) {
	t.Helper()
	for range tokens {
		for layer := range c.Shape().Plan.Layers {
			putLayer(t, r, c, layer)
		}
	}
}

// attends asks that All tells of each query what it gathers of its head's View, and that the answers for head 0 are first.
func attends(t *testing.T, q [][]int32, c *cache.Cache, layer int) {
	times := len(q) / c.Shape().Heads
	var want [][]int32
	for head := range c.Shape().Heads {
		keys, values := c.View(layer, head)
		for i := range times {
			want = append(want, gatherOf(q[head*times+i], keys, values))
		}
	}
	if l, e := All(q, c, layer); e != api.OK || !same(l, want) {
		t.Helper()
		t.Fatalf("All of %d queries, of the layer %d of %v: %v, %d, not %v", len(q), layer, c.Shape(), l, e, want)
	}
}

// attendsAll asks that of all layers, with as many queries as heads, and as many more as may be.
func attendsAll(t *testing.T, r *rand.Rand, c *cache.Cache) {
	t.Helper()
	s := c.Shape()
	for layer := range s.Plan.Layers {
		for n := s.Heads; n <= api.MaxHeads; n += s.Heads {
			attends(t, lists(r, n, s.Dim, near), c, layer)
		}
	}
}

// refusesAll asks that All tells this error, and nothing beside it.
func refusesAll(t *testing.T, q [][]int32, c *cache.Cache, layer int, want api.Errno) {
	if l, e := All(q, c, layer); len(l) != 0 || e != want {
		t.Helper()
		t.Fatalf("All of %d queries, of the layer %d of %v: %v, %d, not %d", len(q), layer, c.Shape(), l, e, want)
	}
}

// P14.3: by hand: two heads, whose pages and plain tokens have the values 10, 20, 60 and their opposites.
func TestAll(t *testing.T) {
	_, c := fresh(t, shape(2, 1, 1, 1, tier.Bits{Key: 2, Value: 2}))
	for _, n := range []int32{10, 20, 60} {
		if e := c.Put(0, [][]int32{{n}, {n * one / 10}}, [][]int32{{n}, {-n}}); e != api.OK {
			t.Fatalf("Put: %d", e)
		}
	}
	for i, x := range []struct{ q, want [][]int32 }{
		{[][]int32{{0}, {0}}, [][]int32{{30}, {-30}}}, {[][]int32{{0}, {0}, {0}, {0}}, [][]int32{{30}, {30}, {-30}, {-30}}},
		{[][]int32{{0}, {100 * one}}, [][]int32{{30}, {-60}}}, {[][]int32{{0}, {-100 * one}}, [][]int32{{30}, {-10}}},
		{[][]int32{{0}, {0}, {100 * one}, {-100 * one}}, [][]int32{{30}, {30}, {-60}, {-10}}}, {[][]int32{{0}, {0}, {0}, {top}}, [][]int32{{30}, {30}, {-30}, {-60}}},
	} {
		if l, e := All(x.q, c, 0); e != api.OK || !same(l, x.want) {
			t.Errorf("All %d: %v, %d, not %v", i, l, e, x.want)
		}
	}
}

// P14.3: how many queries there are, by how many heads: as many, and twice and more times as many, up to MaxHeads.
func TestAllQueries(t *testing.T) {
	r := rand.New(rand.NewSource(24))
	for heads := 1; heads <= api.MaxHeads; heads++ {
		_, c := fresh(t, shape(heads, 2, 2, 1, tier.Bits{Key: 4, Value: 8}))
		put(t, r, c, 4)
		refusesAll(t, nil, c, 0, api.ErrShape)
		refusesAll(t, [][]int32{}, c, 0, api.ErrShape)
		for n := range 14 {
			q := lists(r, n, 2, near)
			if n < 1 || n > api.MaxHeads || n%heads != 0 {
				refusesAll(t, q, c, 0, api.ErrShape)
				continue
			}
			attends(t, q, c, 0)
			for place := range q {
				for _, odd := range [][]int32{nil, {}, {one}, of(3, one), of(16, one), of(17, one)} {
					refusesAll(t, with(q, place, odd), c, 0, api.ErrShape)
				}
			}
			refusesAll(t, of(n, []int32{one}), c, 0, api.ErrShape)
			refusesAll(t, of(n, of(3, one)), c, 0, api.ErrShape)
		}
		refusesAll(t, lists(r, 400, 2, near), c, 0, api.ErrShape)
	}
}

// P14.3: two queries that are one, of the same head and of another one: which head each is for.
func TestAllHeads(t *testing.T) {
	for heads := 1; heads <= api.MaxHeads; heads++ {
		_, c := fresh(t, shape(heads, 1, 1, 2, tier.Bits{Key: 8, Value: 8}))
		for range 3 {
			var keys, values [][]int32
			for head := range heads {
				keys, values = append(keys, []int32{one}), append(values, []int32{int32(head+1) * 100})
			}
			if e := c.Put(0, keys, values); e != api.OK {
				t.Fatalf("Put: %d", e)
			}
		}
		for times := 1; times*heads <= api.MaxHeads; times++ {
			l, e := All(of(times*heads, []int32{one}), c, 0)
			if len(l) != times*heads || e != api.OK {
				t.Fatalf("All: %v, %d", l, e)
			}
			for i, x := range l {
				if want := int32(i/times+1) * 100; len(x) != 1 || x[0] != want {
					t.Errorf("%d times %d heads: query %d: %v, not %d", times, heads, i, x, want)
				}
			}
		}
	}
}

// P14.3: several layers with bits of their own; and those that aren't there.
func TestAllLayers(t *testing.T) {
	r := rand.New(rand.NewSource(25))
	bits := []tier.Bits{{Key: 8, Value: 2}, {Key: 2, Value: 8}, {Key: 4, Value: 4}, {Key: 2, Value: 2}}
	for layers := 1; layers <= api.MaxLayers; layers++ {
		_, c := fresh(t, shape(2, 3, 3, 2, bits[:layers]...))
		q := lists(r, 2, 3, near)
		for _, layer := range []int{-1, deep, far, layers, layers + 1, api.MaxLayers, 1 << 32} {
			refusesAll(t, q, c, layer, api.ErrRange)
		}
		put(t, r, c, 9)
		for layer := range layers {
			attends(t, q, c, layer)
		}
		for _, layer := range []int{-1, deep, far, layers, layers + 1, api.MaxLayers, 1 << 32} {
			refusesAll(t, q, c, layer, api.ErrRange)
		}
	}
}

// P14.3: a layer that was put nothing: in a new cache, behind Clear and Cut, and where only those ahead of it were put the first token; and one that has a token more than others.
func TestAllNone(t *testing.T) {
	r := rand.New(rand.NewSource(26))
	_, c := fresh(t, shape(2, 2, 2, 0, tier.Bits{Key: 8, Value: 8}, tier.Bits{Key: 2, Value: 2}, tier.Bits{Key: 4, Value: 8}))
	none := func(least int) {
		t.Helper()
		for layer := least; layer < 3; layer++ {
			refusesAll(t, of(2, []int32{one, one}), c, layer, api.ErrNone)
			refusesAll(t, of(4, []int32{one, one}), c, layer, api.ErrNone)
		}
	}
	none(0)
	putLayer(t, r, c, 0)
	attends(t, lists(r, 2, 2, near), c, 0)
	none(1)
	putLayer(t, r, c, 1)
	attends(t, lists(r, 4, 2, near), c, 0)
	attends(t, lists(r, 4, 2, near), c, 1)
	none(2)
	c.Clear()
	none(0)
	put(t, r, c, 1)
	attendsAll(t, r, c)
	if e := c.Cut(0); e != api.OK {
		t.Fatalf("Cut: %d", e)
	}
	none(0)
	put(t, r, c, 3)
	for layer := range 3 {
		putLayer(t, r, c, layer)
		attendsAll(t, r, c)
	}
	c.Clear()
	none(0)
}

// P14.3: where several things are wrong, the first is told: queries, then the layer, then that there is nothing.
func TestAllFirst(t *testing.T) {
	r := rand.New(rand.NewSource(27))
	_, empty := fresh(t, shape(2, 2, 1, 0, tier.Bits{Key: 8, Value: 8}))
	_, c := fresh(t, shape(2, 2, 1, 0, tier.Bits{Key: 8, Value: 8}))
	put(t, r, c, 2)
	for _, layer := range []int{-1, 1, deep, far} {
		for _, x := range []*cache.Cache{empty, c} {
			for _, q := range [][][]int32{nil, of(1, []int32{1, 1}), of(3, []int32{1, 1}), of(6, []int32{1, 1}), of(2, []int32{1}), {{1, 1}, {1}}, {{1, 1, 1}, {1, 1}}} {
				refusesAll(t, q, x, layer, api.ErrShape)
				refusesAll(t, q, empty, 0, api.ErrShape)
			}
			refusesAll(t, of(2, []int32{1, 1}), x, layer, api.ErrRange)
			refusesAll(t, of(4, []int32{1, 1}), x, layer, api.ErrRange)
		}
	}
	refusesAll(t, of(2, []int32{1, 1}), empty, 0, api.ErrNone)
}

// P14.3: caches with plain tokens alone, with pages alone, and with both, token by token; and what was put plain is what is gathered.
func TestAllKinds(t *testing.T) {
	r := rand.New(rand.NewSource(28))
	for _, x := range []struct{ group, window int }{{1, 0}, {2, 0}, {4, 0}, {1, 1}, {1, 3}, {3, 2}, {16, 0}, {16, 64}} {
		_, c := fresh(t, shape(2, 2, x.group, x.window, tier.Bits{Key: 4, Value: 4}))
		for n := 1; n <= 40; n++ {
			put(t, r, c, 1)
			plain, _ := c.Plain(0, 0)
			if pages := (n - len(plain)) / x.group; len(c.Pages(0, 1)) != pages || len(plain) > x.group+x.window {
				t.Fatalf("%v: of %d tokens %d plain, %d pages", x, n, len(plain), len(c.Pages(0, 1)))
			}
			attendsAll(t, r, c)
		}
	}
	_, c := fresh(t, shape(1, 3, 16, 64, tier.Bits{Key: 2, Value: 2}))
	var keys, values [][]int32
	for range 60 {
		keys, values = append(keys, near(r, 3)), append(values, some(r, 3))
		if e := c.Put(0, keys[len(keys)-1:], values[len(values)-1:]); e != api.OK {
			t.Fatalf("Put: %d", e)
		}
		q := near(r, 3)
		if l, e := All([][]int32{q}, c, 0); e != api.OK || len(l) != 1 || !slices.Equal(l[0], gatherOf(q, keys, values)) {
			t.Fatalf("All of %d plain tokens: %v, %d", len(keys), l, e)
		}
	}
}

// P14.3: MaxLength tokens, of the greatest shape.
func TestAllMost(t *testing.T) {
	r := rand.New(rand.NewSource(29))
	_, c := fresh(t, shape(api.MaxHeads, api.MaxDim, api.MaxTokens, api.MaxWindow, of(api.MaxLayers, tier.Bits{Key: 8, Value: 8})...))
	put(t, r, c, api.MaxLength)
	attends(t, lists(r, 4, 16, near), c, 0)
	attends(t, lists(r, 4, 16, some), c, 3)
}

// P14.3: a fork has the same; put another token, each gathers of its own.
func TestAllForks(t *testing.T) {
	r := rand.New(rand.NewSource(30))
	p, c := fresh(t, shape(2, 2, 2, 1, tier.Bits{Key: 8, Value: 8}, tier.Bits{Key: 2, Value: 4}))
	put(t, r, c, 6)
	f, e := c.Fork()
	if e != api.OK {
		t.Fatalf("Fork: %d", e)
	}
	q := lists(r, 4, 2, near)
	for layer := range 2 {
		a, ae := All(q, c, layer)
		b, be := All(q, f, layer)
		if !same(a, b) || ae != api.OK || be != api.OK {
			t.Errorf("a fork tells %v, %d, not %v, %d", b, be, a, ae)
		}
	}
	put(t, r, f, 3)
	put(t, r, c, 1)
	attendsAll(t, r, c)
	attendsAll(t, r, f)
	c.Clear()
	refusesAll(t, q, c, 0, api.ErrNone)
	attendsAll(t, r, f)
	f.Clear()
	refusesAll(t, q, f, 1, api.ErrNone)
	if p.Free() != p.Slots() {
		t.Errorf("%d of %d slots are free", p.Free(), p.Slots())
	}
}

// P14.3, P13.3: where another one gave up a page, the View has no such tokens: all else is gathered; of nothing there is nothing to gather.
func TestAllDropped(t *testing.T) {
	r := rand.New(rand.NewSource(31))
	p, c := fresh(t, shape(1, 2, 2, 1, tier.Bits{Key: 8, Value: 8}))
	put(t, r, c, 7)
	for _, id := range c.Slots() {
		p.Drop(id)
		attendsAll(t, r, c)
	}
	p, c = fresh(t, shape(2, 2, 2, 0, tier.Bits{Key: 8, Value: 8}))
	put(t, r, c, 2)
	p.Drop(c.Slots()[1])
	refusesAll(t, lists(r, 2, 2, near), c, 0, api.ErrNone)
}

// P14.3: long rows of puts, cuts, forks and clears, of all shapes.
func TestAllLong(t *testing.T) {
	r := rand.New(rand.NewSource(32))
	bits := []int{2, 4, 8}
	for range 60 {
		var layers []tier.Bits
		for range 1 + r.Intn(4) {
			layers = append(layers, tier.Bits{Key: bits[r.Intn(3)], Value: bits[r.Intn(3)]})
		}
		_, c := fresh(t, shape(1+r.Intn(4), 1+r.Intn(16), 1+r.Intn(6), r.Intn(6), layers...))
		for range 8 {
			put(t, r, c, r.Intn(6))
			switch r.Intn(6) {
			case 0:
				c.Clear()
			case 1:
				c.Cut(c.Tokens() - r.Intn(3))
			case 2:
				c, _ = c.Fork()
			}
			if c.Tokens() > 0 {
				attendsAll(t, r, c)
			}
		}
	}
}

// roomy is a list with spare room behind it, in which there are marks.
func roomy(list []int32) []int32 { return append(slices.Clone(list), 91, 92, 93)[:len(list)] }

func roomyAll(all [][]int32) [][]int32 {
	var r [][]int32
	for _, x := range all {
		r = append(r, roomy(x))
	}
	return append(r, []int32{94}, []int32{95})[:len(all)]
}

// whole is all that a list has, spare room too.
func whole(list []int32) []int32 { return list[:cap(list)] }

func wholeAll(all [][]int32) [][]int32 {
	w := make([][]int32, cap(all))
	for i, x := range all[:cap(all)] {
		w[i] = whole(x)
	}
	return w
}

// spoil fills a list, spare room too.
func spoil(list []int32) {
	for i := range whole(list) {
		whole(list)[i] = 77
	}
}

// spoilAll fills all lists, and then puts others in their places.
func spoilAll(all [][]int32) {
	for _, x := range all[:cap(all)] {
		spoil(x)
	}
	for i := range all[:cap(all)] {
		all[:cap(all)][i] = []int32{78}
	}
}

// P14.1, P14.2: the arguments stay as they are; what is told is new memory, and stays as it is when the arguments are changed.
func TestMemory(t *testing.T) {
	r := rand.New(rand.NewSource(33))
	q, keys, values := roomy(some(r, 3)), roomyAll(lists(r, 5, 3, some)), roomyAll(lists(r, 5, 3, some))
	pages := pagesOf(t, r, 2, 3, 3)
	var ofPage []byte
	for _, p := range pages {
		ofPage = append(ofPage, p.Bytes()...)
	}
	was := slices.Clone(pages)
	wasQ, wasKeys, wasValues := slices.Clone(whole(q)), copied(wholeAll(keys)), copied(wholeAll(values))
	kept := func(what string) {
		t.Helper()
		if !slices.Equal(whole(q), wasQ) || !same(wholeAll(keys), wasKeys) || !same(wholeAll(values), wasValues) {
			t.Errorf("%s changes its arguments: %v, %v, %v", what, whole(q), wholeAll(keys), wholeAll(values))
		}
		if !slices.Equal(pages, was) || !bytes.Equal(slices.Concat(pages[0].Bytes(), pages[1].Bytes()), ofPage) {
			t.Errorf("%s changes its pages", what)
		}
	}
	Score(q, keys[0])
	kept("Score")
	for name, call := range map[string]func() ([]int32, api.Errno){
		"Gather":          func() ([]int32, api.Errno) { return Gather(q, keys, values) },
		"Gather of one":   func() ([]int32, api.Errno) { return Gather(q, keys[:1], values[:1]) },
		"Gather refused":  func() ([]int32, api.Errno) { return Gather(q, keys, values[:4]) },
		"Fused":           func() ([]int32, api.Errno) { return Fused(q, pages, keys, values) },
		"Fused of pages":  func() ([]int32, api.Errno) { return Fused(q, pages, nil, nil) },
		"Fused of part":   func() ([]int32, api.Errno) { return Fused(q, pages[:1], keys[:2], values[:2]) },
		"Fused of lists":  func() ([]int32, api.Errno) { return Fused(q, nil, keys, values) },
		"Fused refused":   func() ([]int32, api.Errno) { return Fused(q, pages, keys[:3], values) },
		"Gather of all q": func() ([]int32, api.Errno) { return Gather(q, of(4, q), of(4, q)) },
	} {
		first, e := call()
		kept(name)
		want := slices.Clone(first)
		spoil(first)
		kept(name + ", its answer changed,")
		if again, f := call(); !slices.Equal(again, want) || e != f {
			t.Errorf("%s, its answer changed, tells %v, %d, not %v, %d", name, again, f, want, e)
		}
	}
	gathered, _ := Gather(q, keys, values)
	fused, _ := Fused(q, pages, keys, values)
	wasGathered, wasFused := slices.Clone(gathered), slices.Clone(fused)
	spoil(q)
	spoilAll(keys)
	spoilAll(values)
	clear(pages)
	if !slices.Equal(gathered, wasGathered) || !slices.Equal(fused, wasFused) {
		t.Errorf("the arguments changed, the answers are %v, %v, not %v, %v", gathered, fused, wasGathered, wasFused)
	}
}

// cacheOf is all that a cache tells, and how often its slots are held.
type cacheOf struct {
	shape                 cache.Shape
	tokens, next, need    int
	lens, slots, refs     []int
	keys, values          [][]int32
	plainKeys, plainLists [][]int32
	bytes                 []byte
	pages                 []*page.Page
}

func told(p *pool.Pool, c *cache.Cache) cacheOf {
	o := cacheOf{shape: c.Shape(), tokens: c.Tokens(), next: c.Next(), need: c.Need(), slots: c.Slots()}
	for _, id := range o.slots {
		o.refs = append(o.refs, p.Refs(id))
	}
	for layer := range o.shape.Plan.Layers {
		o.lens = append(o.lens, c.Len(layer))
		for head := range o.shape.Heads {
			keys, values := c.View(layer, head)
			o.keys, o.values = append(o.keys, keys...), append(o.values, values...)
			keys, values = c.Plain(layer, head)
			o.plainKeys, o.plainLists = append(o.plainKeys, keys...), append(o.plainLists, values...)
			o.pages = append(o.pages, c.Pages(layer, head)...)
		}
	}
	for _, x := range o.pages {
		o.bytes = append(o.bytes, x.Bytes()...)
	}
	return o
}

func (o cacheOf) equal(x cacheOf) bool {
	return tier.Equal(o.shape.Plan, x.shape.Plan) && o.shape.Heads == x.shape.Heads && o.shape.Dim == x.shape.Dim &&
		o.tokens == x.tokens && o.next == x.next && o.need == x.need &&
		slices.Equal(o.lens, x.lens) && slices.Equal(o.slots, x.slots) && slices.Equal(o.refs, x.refs) &&
		same(o.keys, x.keys) && same(o.values, x.values) && same(o.plainKeys, x.plainKeys) && same(o.plainLists, x.plainLists) &&
		slices.Equal(o.pages, x.pages) && bytes.Equal(o.bytes, x.bytes)
}

// P14.3: the queries and the cache stay as they are; what is told is new memory, list by list.
func TestAllMemory(t *testing.T) {
	r := rand.New(rand.NewSource(34))
	p, c := fresh(t, shape(2, 3, 2, 1, tier.Bits{Key: 8, Value: 8}, tier.Bits{Key: 2, Value: 4}))
	put(t, r, c, 6)
	putLayer(t, r, c, 0)
	was := told(p, c)
	q := roomyAll(lists(r, 4, 3, some))
	q[1] = q[0]
	wasQ := copied(wholeAll(q))
	kept := func(what string) {
		t.Helper()
		if !same(wholeAll(q), wasQ) {
			t.Errorf("%s: the queries: %v, not %v", what, wholeAll(q), wasQ)
		}
		if !told(p, c).equal(was) {
			t.Errorf("%s: the cache tells %v, not %v", what, told(p, c), was)
		}
	}
	for layer := range 2 {
		first, e := All(q, c, layer)
		kept("All")
		want := copied(first)
		for i, x := range first {
			spoil(x)
			for k, y := range first[i+1:] {
				if !slices.Equal(y, want[i+1+k]) {
					t.Errorf("list %d changed, %d is %v, not %v", i, i+1+k, y, want[i+1+k])
				}
			}
		}
		spoilAll(first)
		kept("its answer changed")
		again, f := All(q, c, layer)
		if !same(again, want) || e != api.OK || f != api.OK {
			t.Errorf("its answer changed, All tells %v, %d, not %v, %d", again, f, want, e)
		}
		refusesAll(t, q[:3], c, layer, api.ErrShape)
		refusesAll(t, q, c, 2+layer, api.ErrRange)
		kept("refused")
	}
	l, _ := All(q, c, 0)
	want := copied(l)
	spoilAll(q)
	c.Clear()
	if !same(l, want) {
		t.Errorf("the queries and the cache changed, the answer is %v, not %v", l, want)
	}
}

// P14.1, P14.2: nothing is kept from call to call: whatever was asked between, the same is told of the same.
func TestKept(t *testing.T) {
	r := rand.New(rand.NewSource(35))
	q, keys, values, pages := near(r, 4), lists(r, 6, 4, near), lists(r, 6, 4, some), pagesOf(t, r, 2, 5, 4)
	score, _ := Score(q, keys[0])
	gathered, _ := Gather(q, keys, values)
	fused, _ := Fused(q, pages, keys, values)
	for k := range 20 {
		dim, n := 1+r.Intn(16), 1+r.Intn(20)
		Score(some(r, dim), some(r, dim+k%2))
		Gather(some(r, dim), lists(r, n, dim, some), lists(r, n, dim, some))
		Gather(some(r, dim), lists(r, n, dim+1, some), nil)
		Fused(some(r, dim), pagesOf(t, r, 1, 4, dim), lists(r, n, dim, some), lists(r, n, dim, some))
		Fused(some(r, dim+1), pagesOf(t, r, 1, 4, dim), nil, nil)
		s, se := Score(q, keys[0])
		g, ge := Gather(q, keys, values)
		f, fe := Fused(q, pages, keys, values)
		if s != score || !slices.Equal(g, gathered) || !slices.Equal(f, fused) || se != api.OK || ge != api.OK || fe != api.OK {
			t.Fatalf("again: %d, %v, %v, not %d, %v, %v", s, g, f, score, gathered, fused)
		}
	}
}

// The chapter's example: of one token what is gathered is its value, in a list, in a page and in a cache.
func TestExample(t *testing.T) {
	value := []int32{4 * one, -9}
	for _, q := range [][]int32{{0, 0}, {one, -one}, {top, low}} {
		if l, e := Gather(q, [][]int32{{7, 8}}, [][]int32{value}); e != api.OK || !slices.Equal(l, value) {
			t.Errorf("Gather: %v, %d", l, e)
		}
		p := made(t, 8, 8, [][]int32{{7, 8}}, [][]int32{value})
		if l, e := Fused(q, []*page.Page{p}, nil, nil); e != api.OK || !slices.Equal(l, p.Values()[0]) {
			t.Errorf("Fused: %v, %d", l, e)
		}
		_, c := fresh(t, shape(1, 2, 1, 1, tier.Bits{Key: 2, Value: 2}))
		if e := c.Put(0, [][]int32{{7, 8}}, [][]int32{value}); e != api.OK {
			t.Fatalf("Put: %d", e)
		}
		if l, e := All([][]int32{q}, c, 0); e != api.OK || !same(l, [][]int32{value}) {
			t.Errorf("All: %v, %d", l, e)
		}
	}
}
