package soft

import (
	"math"
	"math/big"
	"math/rand"
	"slices"
	"testing"

	"credenza/api"
	"credenza/expo"
	"credenza/fix"
)

const (
	top  = int32(math.MaxInt32)
	low  = int32(math.MinInt32)
	mild = int32(1 << 24)
	most = int32(1 << 23) // the narrow range's greatest number
	full = api.MaxLength
	one  = 1 << 16
)

// of makes a list of n times x.
func of[T any](n int, x T) []T { return slices.Repeat([]T{x}, n) }

// with makes a list of n times x, but for y at a place.
func with[T any](n int, x T, place int, y T) []T {
	l := of(n, x)
	l[place] = y
	return l
}

// some makes n numbers from -end to end, of all sizes.
func some(r *rand.Rand, n int, end int32) []int32 {
	l := make([]int32, n)
	for i := range l {
		l[i] = int32((r.Int63n(2*int64(end)+1) - int64(end)) >> r.Intn(25))
	}
	return l
}

// P4.1: the chapter's example, scores that are alike, that are far apart, and whose difference is cut.
func TestWeights(t *testing.T) {
	for i, c := range []struct {
		scores []int32
		want   []int
	}{
		{[]int32{5, 5}, []int{one, one}}, {[]int32{0}, []int{one}}, {[]int32{low}, []int{one}}, {[]int32{top}, []int{one}}, {[]int32{-7}, []int{one}},
		{[]int32{low, low, low}, of(3, one)}, {[]int32{top, top}, of(2, one)}, {[]int32{0, 0, 0, 0}, of(4, one)},
		{[]int32{0, -65536}, []int{one, 24108}}, {[]int32{-65536, 0}, []int{24108, one}}, {[]int32{65536, 0, 65536, -1}, []int{one, 24108, one, expo.Exp(-65537)}},
		{[]int32{10, 9, 8}, []int{one, expo.Exp(-1), expo.Exp(-2)}}, {[]int32{-10, -9, -8}, []int{expo.Exp(-2), expo.Exp(-1), one}},
		{[]int32{0, -13 * one}, []int{one, 0}}, {[]int32{13 * one, 0}, []int{one, 0}}, {[]int32{0, -one * 11}, []int{one, expo.Exp(-one * 11)}},
		{[]int32{top, low}, []int{one, 0}}, {[]int32{low, top}, []int{0, one}}, {[]int32{1, low}, []int{one, 0}}, {[]int32{0, low}, []int{one, 0}}, {[]int32{-1, low}, []int{one, 0}}, {[]int32{top, 0, low, top}, []int{one, 0, 0, one}}, {[]int32{top, -1}, []int{one, 0}}, {[]int32{top, -2}, []int{one, 0}},
		{[]int32{low, low + one}, []int{24108, one}}, {[]int32{top, top - one}, []int{one, 24108}},
	} {
		if w, e := Weights(c.scores); e != api.OK || !slices.Equal(w, c.want) {
			t.Errorf("Weights %d: %v, %d, not %v", i, w, e, c.want)
		}
	}
}

// P4.1: no scores, MaxLength of them, and more.
func TestWeightsCounts(t *testing.T) {
	for i, c := range []struct {
		scores []int32
		e      api.Errno
	}{
		{nil, api.ErrNone}, {[]int32{}, api.ErrNone}, {of(9, int32(4))[:0], api.ErrNone},
		{of(1, int32(3)), api.OK}, {of(full-1, int32(3)), api.OK}, {of(full, int32(3)), api.OK}, {of(full, low), api.OK},
		{of(full+1, int32(3)), api.ErrMany}, {of(full+1, low), api.ErrMany}, {of(5*full, top), api.ErrMany},
	} {
		var want []int
		if c.e == api.OK {
			want = of(len(c.scores), one)
		}
		if w, e := Weights(c.scores); e != c.e || !slices.Equal(w, want) {
			t.Errorf("Weights %d: %d weights, %d, not %d, %d", i, len(w), e, len(want), c.e)
		}
	}
	if w, e := Weights(with(full, 0, full-1, int32(one))); e != api.OK || !slices.Equal(w, with(full, 24108, full-1, one)) {
		t.Errorf("Weights, the greatest one last: %d", e)
	}
}

// P4.1, P4.3: each weight is the power of the score less the greatest one, cut; that of the greatest one is 2^16, and no score has more.
func TestWeightsEach(t *testing.T) {
	r := rand.New(rand.NewSource(8))
	for k := range 400 {
		scores := some(r, 1+r.Intn(40), top>>(k%20))
		if k%7 == 0 {
			scores = append(scores, low)
		}
		greatest := slices.Max(scores)
		w, e := Weights(scores)
		if e != api.OK || len(w) != len(scores) {
			t.Fatalf("Weights of %d: %d weights, %d", len(scores), len(w), e)
		}
		for i, x := range scores {
			less := max(int64(x)-int64(greatest), int64(low))
			if w[i] != expo.Exp(int32(less)) || w[i] < 0 || w[i] > one {
				t.Fatalf("the weight of %d below %d: %d", x, greatest, w[i])
			}
			if x == greatest && w[i] != one {
				t.Fatalf("the greatest score's weight: %d", w[i])
			}
		}
	}
}

// P4.3: a number that is put to all scores changes no weight, up to both ends of the wide range.
func TestWeightsMoved(t *testing.T) {
	r := rand.New(rand.NewSource(9))
	for range 300 {
		scores := some(r, 1+r.Intn(20), 1<<20)
		w, _ := Weights(scores)
		for _, d := range []int32{1, -1, one, -one, r.Int31n(1 << 30), -r.Int31n(1 << 30), fix.Sub(top, slices.Max(scores)), fix.Sub(low, slices.Min(scores))} {
			moved := slices.Clone(scores)
			for i := range moved {
				moved[i] = fix.Add(moved[i], d)
			}
			if v, e := Weights(moved); e != api.OK || !slices.Equal(v, w) {
				t.Fatalf("Weights of %v, moved by %d: %v, %d, not %v", scores, d, v, e, w)
			}
		}
	}
}

// P4.1: the sum, of whole numbers of any sign and of none.
func TestSum(t *testing.T) {
	for i, c := range []struct {
		w    []int
		want int64
	}{
		{nil, 0}, {[]int{}, 0}, {[]int{0}, 0}, {[]int{7}, 7}, {[]int{one, one}, 2 * one}, {[]int{1, 20, 300}, 321}, {[]int{-5, 3}, -2}, {[]int{0, 0, 9}, 9},
		{of(full, one), 1 << 26}, {of(5*full, one), 5 << 26}, {[]int{1 << 40, 1 << 41}, 3 << 40}, {[]int{math.MaxInt}, math.MaxInt64}, {[]int{math.MinInt, math.MaxInt}, -1}, {[]int{-1 << 40, -1 << 40}, -1 << 41},
	} {
		if s := Sum(c.w); s != c.want {
			t.Errorf("Sum %d: %d, not %d", i, s, c.want)
		}
	}
}

// P4.2: the chapter's example, means that are rounded at a half and by it, and means that are cut.
func TestMix(t *testing.T) {
	for i, c := range []struct {
		w     []int
		lists [][]int32
		want  []int32
	}{
		{[]int{one, one}, [][]int32{{2}, {4}}, []int32{3}}, {[]int{1, 1}, [][]int32{{2}, {4}}, []int32{3}}, {[]int{7}, [][]int32{{1, -2, 3}}, []int32{1, -2, 3}}, {[]int{1}, [][]int32{{9}}, []int32{9}}, {[]int{one}, [][]int32{{9}}, []int32{9}},
		{[]int{1, 3}, [][]int32{{0, 100}, {8, 200}}, []int32{6, 175}}, {[]int{3, 1}, [][]int32{{0, 100}, {8, 200}}, []int32{2, 125}}, {[]int{1, 2, 3}, [][]int32{{6}, {12}, {18}}, []int32{14}},
		// A list whose weight is 0 counts for nothing.
		{[]int{0, 5}, [][]int32{{100, 200}, {3, -4}}, []int32{3, -4}}, {[]int{5, 0}, [][]int32{{3, -4}, {mild, -mild}}, []int32{3, -4}}, {[]int{0, 0, 1}, [][]int32{{1}, {2}, {3}}, []int32{3}},
		// At a half, and on both sides of it, with both signs.
		{[]int{1, 1}, [][]int32{{0, 1, 2, 3, -1, -2, -3, -4}, {1, 2, 3, 4, 0, -1, -2, -3}}, []int32{0, 2, 2, 4, 0, -2, -2, -4}}, {[]int{one, one}, [][]int32{{5, -5}, {6, -6}}, []int32{6, -6}}, {[]int{1, 1}, [][]int32{{-3}, {4}}, []int32{0}}, {[]int{1, 1}, [][]int32{{3}, {-4}}, []int32{0}}, {[]int{1, 1}, [][]int32{{3}, {0}}, []int32{2}}, {[]int{1, 1}, [][]int32{{-3}, {0}}, []int32{-2}},
		{[]int{1, 2}, [][]int32{{0, 0, 1, -1}, {1, -1, 0, 0}}, []int32{1, -1, 0, 0}}, {[]int{one, one - 1}, [][]int32{{1, 0, -1, 0}, {0, 1, 0, -1}}, []int32{1, 0, -1, 0}},
		// At both ends of the narrow range.
		{[]int{7}, [][]int32{{mild, -mild, most, -most, most + 1, -most - 1, most - 1, 1 - most}}, []int32{most, -most, most, -most, most, -most, most - 1, 1 - most}},
		{[]int{1, 1}, [][]int32{{mild, -mild, mild}, {mild, -mild, -mild}}, []int32{most, -most, 0}}, {[]int{1, 1}, [][]int32{{mild, -mild}, {0, 0}}, []int32{most, -most}}, {[]int{1, 1}, [][]int32{{mild, -mild}, {-2, 2}}, []int32{most - 1, 1 - most}}, {[]int{1, 1}, [][]int32{{mild, -mild}, {2, -2}}, []int32{most, -most}},
		// The mean is cut, not what it is made of.
		{[]int{1, 3}, [][]int32{{mild, -mild}, {0, 0}}, []int32{1 << 22, -1 << 22}},
		// Lists without numbers.
		{[]int{7}, [][]int32{{}}, nil}, {[]int{7}, [][]int32{nil}, nil}, {[]int{1, 2}, [][]int32{nil, {}}, nil}, {[]int{0, one}, [][]int32{{}, {}}, nil},
	} {
		if m, e := Mix(c.w, c.lists); e != api.OK || !slices.Equal(m, c.want) {
			t.Errorf("Mix %d: %v, %d, not %v", i, m, e, c.want)
		}
	}
}

// P4.2: what is refused, and which error is told where several hold.
func TestMixRefused(t *testing.T) {
	a, far := []int32{1}, []int32{mild + 1}
	for i, c := range []struct {
		w     []int
		lists [][]int32
		e     api.Errno
	}{
		{nil, nil, api.ErrNone}, {[]int{}, [][]int32{}, api.ErrNone}, {[]int{1}, nil, api.ErrNone}, {[]int{-1, one + 1}, nil, api.ErrNone}, {of(full+1, 1), nil, api.ErrNone}, {[]int{0}, of(3, a)[:0], api.ErrNone},
		{of(full+1, 1), of(full+1, a), api.ErrMany}, {of(4*full, 1), of(4*full, a), api.ErrMany}, {of(full+1, 1), make([][]int32, full+1), api.ErrMany},
		{nil, [][]int32{a}, api.ErrShape}, {[]int{1, 1}, [][]int32{a}, api.ErrShape}, {[]int{1}, [][]int32{a, a}, api.ErrShape}, {of(full+1, 1), of(full, a), api.ErrShape}, {of(full-1, 1), of(full, a), api.ErrShape},
		{[]int{1, 1}, [][]int32{{1}, {1, 2}}, api.ErrShape}, {[]int{1, 1}, [][]int32{{1, 2}, {1}}, api.ErrShape}, {[]int{1, 1}, [][]int32{{1}, nil}, api.ErrShape}, {[]int{1, 1}, [][]int32{nil, {1}}, api.ErrShape}, {[]int{1, 1, 1}, [][]int32{{1}, {2}, {3, 4}}, api.ErrShape}, {of(full, 1), with(full, a, full-1, nil), api.ErrShape}, {of(full, 1), with(full, a, full/2, []int32{1, 2}), api.ErrShape},
		{[]int{-1}, [][]int32{a}, api.ErrRange}, {[]int{-1, 3}, [][]int32{a, a}, api.ErrRange}, {[]int{3, -1}, [][]int32{a, a}, api.ErrRange}, {[]int{one + 1}, [][]int32{a}, api.ErrRange}, {[]int{1, one + 1}, [][]int32{a, a}, api.ErrRange}, {[]int{one + 1, -1}, [][]int32{a, a}, api.ErrRange}, {[]int{math.MinInt}, [][]int32{a}, api.ErrRange}, {[]int{math.MaxInt}, [][]int32{a}, api.ErrRange}, {[]int{math.MaxInt, math.MaxInt}, [][]int32{a, a}, api.ErrRange}, {[]int{math.MaxInt, math.MinInt, 5}, [][]int32{a, a, a}, api.ErrRange}, {[]int{1 << 32}, [][]int32{a}, api.ErrRange}, {[]int{1<<32 + 1}, [][]int32{a}, api.ErrRange},
		{[]int{0}, [][]int32{a}, api.ErrRange}, {[]int{0, 0, 0}, [][]int32{a, a, a}, api.ErrRange}, {of(full, 0), of(full, a), api.ErrRange}, {[]int{0}, [][]int32{nil}, api.ErrRange}, {[]int{-1}, [][]int32{nil}, api.ErrRange}, {[]int{one + 1}, [][]int32{{}}, api.ErrRange}, {[]int{-1, 1}, [][]int32{a, a}, api.ErrRange},
		{[]int{1}, [][]int32{far}, api.ErrRange}, {[]int{1}, [][]int32{{-mild - 1}}, api.ErrRange}, {[]int{1}, [][]int32{{top}}, api.ErrRange}, {[]int{1}, [][]int32{{low}}, api.ErrRange}, {[]int{1, 1}, [][]int32{a, far}, api.ErrRange}, {[]int{1, 1}, [][]int32{far, a}, api.ErrRange}, {[]int{1}, [][]int32{{0, 0, mild + 1}}, api.ErrRange}, {of(full, 1), with(full, a, full-1, far), api.ErrRange},
		// A list whose weight is 0 must be mild too.
		{[]int{0, 1}, [][]int32{far, a}, api.ErrRange}, {[]int{1, 0}, [][]int32{a, {-mild - 1}}, api.ErrRange},
		// A list of more than MaxLength numbers isn't mild.
		{[]int{1}, [][]int32{of(full+1, int32(0))}, api.ErrRange}, {[]int{1, 2}, of(2, of(full+1, int32(0))), api.ErrRange},
		// Of several errors the first: how many lists, then as many, then one length, then the range.
		{nil, of(full+1, a), api.ErrMany}, {of(full, 1), of(full+1, a), api.ErrMany}, {of(full+1, -1), of(full+1, far), api.ErrMany}, {of(full+1, 0), with(full+1, a, 3, nil), api.ErrMany},
		{[]int{-1}, [][]int32{a, a}, api.ErrShape}, {[]int{0, 0}, [][]int32{a}, api.ErrShape}, {[]int{one + 1, 1}, [][]int32{far}, api.ErrShape}, {nil, [][]int32{far}, api.ErrShape},
		{[]int{-1, 1}, [][]int32{{1}, {1, 2}}, api.ErrShape}, {[]int{0, 0}, [][]int32{far, nil}, api.ErrShape}, {[]int{1, 1}, [][]int32{{top, low}, {1}}, api.ErrShape}, {[]int{1, 1}, [][]int32{of(full+1, int32(0)), of(full, int32(0))}, api.ErrShape},
	} {
		if m, e := Mix(c.w, c.lists); e != c.e || len(m) != 0 {
			t.Errorf("Mix %d: %d numbers, %d, not %d", i, len(m), e, c.e)
		}
	}
}

// P4.2: as many lists, numbers and weights as there may be, at both ends.
func TestMixFull(t *testing.T) {
	for i, c := range []struct {
		w    []int
		list []int32
		want []int32
	}{
		{of(full, one), of(full, mild), of(full, most)}, {of(full, one), of(full, -mild), of(full, -most)}, {of(full, one), of(full, int32(5)), of(full, int32(5))}, {of(full, 1), of(full, most-1), of(full, most-1)},
		{with(full, 0, full-1, one), of(full, int32(-3)), of(full, int32(-3))}, {with(full, 0, 0, 1), of(full, int32(8)), of(full, int32(8))}, {of(full, one), of(1, int32(8)), of(1, int32(8))}, {of(full, one), nil, nil},
	} {
		if m, e := Mix(c.w, of(full, c.list)); e != api.OK || !slices.Equal(m, c.want) {
			t.Errorf("Mix %d: %d numbers, %d", i, len(m), e)
		}
	}
	// The last list and its weight are counted in.
	lists := with(full, []int32{0, 0}, full-1, []int32{full, -full})
	if m, e := Mix(of(full, 9), lists); e != api.OK || !slices.Equal(m, []int32{1, -1}) {
		t.Errorf("Mix: %v, %d", m, e)
	}
}

// mean is the document's word for a place of Mix, in big numbers: halves go to the even one.
func mean(w []int, lists [][]int32, place int) int32 {
	sum, whole := new(big.Int), new(big.Int)
	for k, l := range lists {
		weight := big.NewInt(int64(w[k]))
		whole.Add(whole, weight)
		sum.Add(sum, weight.Mul(weight, big.NewInt(int64(l[place]))))
	}
	q, rest := new(big.Int).DivMod(sum, whole, new(big.Int))
	if side := rest.Lsh(rest, 1).Cmp(whole); side > 0 || side == 0 && q.Bit(0) == 1 {
		q.Add(q, big.NewInt(1))
	}
	return int32(min(max(q.Int64(), int64(-most)), int64(most)))
}

// P4.2, P4.3: each place of the mean, held against big numbers; it is from the least to the greatest one there, cut.
func TestMixExact(t *testing.T) {
	r := rand.New(rand.NewSource(10))
	for k := range 400 {
		n, long := 1+r.Intn(20), r.Intn(12)
		w, lists := make([]int, n), make([][]int32, n)
		for i := range w {
			w[i] = r.Intn(one+1) >> r.Intn(18)
			lists[i] = some(r, long, mild>>(k%25))
		}
		w[r.Intn(n)] = 1 + r.Intn(one)
		m, e := Mix(w, lists)
		if e != api.OK || len(m) != long {
			t.Fatalf("Mix of %d lists of %d: %d numbers, %d", n, long, len(m), e)
		}
		for i, x := range m {
			if want := mean(w, lists, i); x != want {
				t.Fatalf("Mix(%v, %v) at %d: %d, not %d", w, lists, i, x, want)
			}
			least, greatest := lists[0][i], lists[0][i]
			for _, l := range lists {
				least, greatest = min(least, l[i]), max(greatest, l[i])
			}
			if x < fix.Narrow(int64(least)) || x > fix.Narrow(int64(greatest)) {
				t.Fatalf("Mix(%v, %v) at %d: %d", w, lists, i, x)
			}
		}
	}
}

// The chapter's example, from scores to the mean.
func TestExample(t *testing.T) {
	w, e := Weights([]int32{5, 5})
	m, f := Mix(w, [][]int32{{2}, {4}})
	if e != api.OK || f != api.OK || !slices.Equal(w, []int{65536, 65536}) || Sum(w) != 131072 || !slices.Equal(m, []int32{3}) {
		t.Errorf("%v, %d, %v, %d", w, e, m, f)
	}
}

// roomy makes a list with spare room behind it, and tells both.
func roomy[T any](l []T, spare T) (list, whole []T) {
	whole = append(slices.Clone(l), of(4, spare)...)
	return whole[:len(l)], whole
}

// spoil writes over all that an answer has, its spare room too.
func spoil[T any](l []T, x T) {
	l = l[:cap(l)]
	for i := range l {
		l[i] = x
	}
}

// DOC.md's rule of memory: what is handed in stays, its spare room too, and each answer is of its own.
func TestMemoryWeights(t *testing.T) {
	for i, scores := range [][]int32{{5, -6, top, low}, {9}, nil, of(full, int32(3)), of(full+1, int32(3))} {
		list, whole := roomy(scores, 111)
		kept := slices.Clone(whole)
		w, _ := Weights(list)
		other, _ := Weights(list)
		same := slices.Clone(other)
		spoil(w, 77)
		if !slices.Equal(whole, kept) || !slices.Equal(other, same) {
			t.Errorf("Weights %d changed or shared memory", i)
		}
		clear(whole)
		if !slices.Equal(other, same) {
			t.Errorf("Weights %d kept what it was handed", i)
		}
		counts, all := roomy(same, 222)
		keptCounts := slices.Clone(all)
		Sum(counts)
		if !slices.Equal(all, keptCounts) {
			t.Errorf("Sum %d changed what it was handed", i)
		}
	}
}

// The same of Mix, where one list is all there is, where the lists are one, and where it refuses.
func TestMemoryMix(t *testing.T) {
	one := []int32{1, 2, 3}
	for i, c := range []struct {
		w     []int
		lists [][]int32
	}{
		{[]int{7}, [][]int32{{1, 2, 3}}}, {[]int{1, 2}, [][]int32{{1, 2}, {3, -4}}}, {[]int{1, 0}, [][]int32{{mild, 2}, {3, 4}}}, {[]int{1, 1, 1}, [][]int32{one, one, one}}, {[]int{1, 1}, [][]int32{one, {4}}}, {[]int{-1}, [][]int32{one}}, {[]int{1}, [][]int32{{top, low}}}, {[]int{4}, nil},
	} {
		w, allW := roomy(c.w, 111)
		lists, allLists := roomy(c.lists, []int32{444})
		wholes := make([][]int32, len(lists))
		for k, l := range lists {
			lists[k], wholes[k] = roomy(l, 222)
		}
		keptW, keptLists, keptWholes := slices.Clone(allW), deep(allLists), deep(wholes)
		m, _ := Mix(w, lists)
		other, _ := Mix(w, lists)
		same := slices.Clone(other)
		spoil(m, 77)
		if !slices.Equal(allW, keptW) || !alike(allLists, keptLists) || !alike(wholes, keptWholes) || !slices.Equal(other, same) {
			t.Errorf("Mix %d changed or shared memory", i)
		}
		for _, l := range wholes {
			clear(l)
		}
		if !slices.Equal(other, same) {
			t.Errorf("Mix %d kept what it was handed", i)
		}
	}
}

// deep copies a list of lists with all that is in them.
func deep(lists [][]int32) [][]int32 {
	out := make([][]int32, len(lists))
	for i, l := range lists {
		out[i] = slices.Clone(l)
	}
	return out
}

func alike(a, b [][]int32) bool { return slices.EqualFunc(a, b, slices.Equal) }
