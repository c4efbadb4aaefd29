package dot

import (
	"math"
	"math/big"
	"math/rand"
	"slices"
	"testing"

	"credenza/api"
)

const (
	top  = int32(math.MaxInt32)
	low  = int32(math.MinInt32)
	mild = int32(1 << 24)
	most = int32(1 << 23) // the narrow range's greatest number
	full = api.MaxLength
)

// of makes a list of n times x.
func of(n int, x int32) []int32 { return slices.Repeat([]int32{x}, n) }

// with makes a list of n noughts, but for x at a place.
func with(n, place int, x int32) []int32 {
	l := make([]int32, n)
	l[place] = x
	return l
}

func num(v int32) *big.Int { return big.NewInt(int64(v)) }

// narrow cuts a big number to the narrow range.
func narrow(v *big.Int) int32 {
	if v.Cmp(num(-most)) < 0 {
		return -most
	}
	if v.Cmp(num(most)) > 0 {
		return most
	}
	return int32(v.Int64())
}

// sum is the document's word for a place of Add, in big numbers.
func sum(a, b int32) int32 { return narrow(new(big.Int).Add(num(a), num(b))) }

// product is the document's word for a place of By, in big numbers: halves go to the even one.
func product(a, b int32) int32 {
	q, rest := new(big.Int).DivMod(new(big.Int).Mul(num(a), num(b)), num(1<<16), new(big.Int))
	if side := rest.Cmp(num(1 << 15)); side > 0 || side == 0 && q.Bit(0) == 1 {
		q.Add(q, num(1))
	}
	return narrow(q)
}

// numbers are both ends, those by each power of two and by three halves of it, with both signs, and some others.
func numbers() []int32 {
	l := []int32{low, low + 1, top - 1, top}
	for n := 0; n <= 30; n++ {
		for d := int32(-2); d <= 2; d++ {
			l = append(l, 1<<n+d, -(1<<n + d))
			if n <= 29 {
				l = append(l, 3<<n/2+d, -(3<<n/2 + d))
			}
		}
	}
	r := rand.New(rand.NewSource(6))
	for range 200 {
		l = append(l, int32(r.Uint32())>>r.Intn(31))
	}
	slices.Sort(l)
	return slices.Compact(l)
}

// P3.1: empty lists, full ones and one more, numbers at the ends and one past them, at any place.
func TestMild(t *testing.T) {
	for i, c := range []struct {
		a    []int32
		want bool
	}{
		{nil, true}, {[]int32{}, true}, {[]int32{0}, true}, {[]int32{1, -1}, true},
		{[]int32{mild}, true}, {[]int32{mild + 1}, false}, {[]int32{-mild}, true}, {[]int32{-mild - 1}, false}, {[]int32{top}, false}, {[]int32{low}, false},
		{[]int32{mild, -mild, mild - 1, 1 - mild}, true}, {[]int32{mild + 1, 0, 0}, false}, {[]int32{0, -mild - 1, 0}, false}, {[]int32{0, 0, mild + 1}, false},
		{of(full-1, 0), true}, {of(full, 0), true}, {of(full+1, 0), false}, {of(full, mild), true}, {of(full, -mild), true}, {of(full+1, mild), false}, {of(4*full, 0), false},
		{with(full, 0, mild+1), false}, {with(full, full-1, mild+1), false}, {with(full, full-1, -mild-1), false}, {with(full, full/2, low), false}, {with(full+1, full, low), false},
	} {
		if got := Mild(c.a); got != c.want {
			t.Errorf("Mild %d: %t", i, got)
		}
	}
}

// P3.1: the chapter's example, lists that are empty or full, sums of both ends, and which error is told where several hold.
func TestDot(t *testing.T) {
	for i, c := range []struct {
		a, b []int32
		v    int64
		e    api.Errno
	}{
		{[]int32{1, 2}, []int32{3, 4}, 11, api.OK}, {[]int32{1, 2}, []int32{3, -4}, -5, api.OK}, {[]int32{-1, 2, 5}, []int32{-3, 0, 7}, 38, api.OK},
		{nil, nil, 0, api.OK}, {nil, []int32{}, 0, api.OK}, {[]int32{}, nil, 0, api.OK}, {[]int32{7}, []int32{0}, 0, api.OK},
		{[]int32{1}, []int32{1}, 1, api.OK}, {[]int32{mild}, []int32{mild}, 1 << 48, api.OK}, {[]int32{mild}, []int32{-mild}, -1 << 48, api.OK}, {[]int32{-mild}, []int32{-mild}, 1 << 48, api.OK},
		{[]int32{mild, mild}, []int32{mild, 1 - mild}, 1 << 24, api.OK},
		{of(full, mild), of(full, mild), 1 << 58, api.OK}, {of(full, -mild), of(full, -mild), 1 << 58, api.OK}, {of(full, mild), of(full, -mild), -1 << 58, api.OK}, {of(full, -mild), of(full, mild), -1 << 58, api.OK},
		{of(full-1, mild), of(full-1, mild), 1<<58 - 1<<48, api.OK}, {with(full, full-1, 3), with(full, full-1, 5), 15, api.OK},
		{[]int32{1}, nil, 0, api.ErrShape}, {nil, []int32{1}, 0, api.ErrShape}, {[]int32{1, 2}, []int32{1}, 0, api.ErrShape}, {[]int32{1}, []int32{1, 2}, 0, api.ErrShape}, {of(full, 1), of(full-1, 1), 0, api.ErrShape},
		{of(full+1, 1), of(full+1, 1), 0, api.ErrMany}, {of(3*full, 0), of(3*full, 0), 0, api.ErrMany},
		{[]int32{mild + 1}, []int32{0}, 0, api.ErrRange}, {[]int32{0}, []int32{mild + 1}, 0, api.ErrRange}, {[]int32{-mild - 1}, []int32{0}, 0, api.ErrRange}, {[]int32{0}, []int32{-mild - 1}, 0, api.ErrRange},
		{[]int32{top}, []int32{low}, 0, api.ErrRange}, {with(full, full-1, mild+1), of(full, 1), 0, api.ErrRange}, {of(full, 1), with(full, full-1, -mild-1), 0, api.ErrRange},
		// Of several errors the first: as many, then how many, then mild.
		{of(full+1, 1), of(full, 1), 0, api.ErrShape}, {of(full, 1), of(full+1, 1), 0, api.ErrShape}, {of(full+1, 1), of(full+2, 1), 0, api.ErrShape}, {nil, of(full+1, low), 0, api.ErrShape},
		{[]int32{top}, nil, 0, api.ErrShape}, {[]int32{1}, []int32{low, low}, 0, api.ErrShape},
		{of(full+1, top), of(full+1, low), 0, api.ErrMany}, {of(full+1, 0), with(full+1, full, mild+1), 0, api.ErrMany},
	} {
		if v, e := Dot(c.a, c.b); v != c.v || e != c.e {
			t.Errorf("Dot %d: %d, %d, not %d, %d", i, v, e, c.v, c.e)
		}
	}
}

// P3.1: the sum of the products, held against big numbers, at any length.
func TestDotExact(t *testing.T) {
	r := rand.New(rand.NewSource(7))
	some := func(n int) []int32 {
		l := make([]int32, n)
		for i := range l {
			l[i] = (r.Int31n(2*mild+1) - mild) >> r.Intn(25)
		}
		return l
	}
	for k := range 300 {
		n := r.Intn(full + 1)
		if k < 40 {
			n = k
		}
		a, b := some(n), some(n)
		want := new(big.Int)
		for i := range a {
			want.Add(want, new(big.Int).Mul(num(a[i]), num(b[i])))
		}
		if v, e := Dot(a, b); e != api.OK || v != want.Int64() {
			t.Fatalf("Dot of %d numbers: %d, %d, not %d", n, v, e, want)
		}
	}
}

// P3.2: sums that are cut at both ends, and just not; numbers needn't be mild.
func TestAdd(t *testing.T) {
	for _, c := range [][3]int32{
		{1, 2, 3}, {-7, 5, -2}, {0, 0, 0}, {most, 0, most}, {most, 1, most}, {most - 1, 1, most}, {most - 2, 1, most - 1}, {most, -1, most - 1}, {most, most, most},
		{-most, 0, -most}, {-most, -1, -most}, {1 - most, -1, -most}, {2 - most, -1, 1 - most}, {-most, 1, 1 - most}, {-most, -most, -most}, {most, -most, 0},
		{mild, -mild, 0}, {mild + 1, -mild, 1}, {top, top, most}, {low, low, -most}, {top, 1, most}, {low, -1, -most}, {top, low, -1}, {low, top, -1}, {top, 0, most}, {0, low, -most}, {top, most - top, most}, {top, -top, 0},
	} {
		if s, e := Add([]int32{c[0]}, []int32{c[1]}); e != api.OK || len(s) != 1 || s[0] != c[2] {
			t.Errorf("Add(%d, %d): %v, %d, not %d", c[0], c[1], s, e, c[2])
		}
	}
	if s, e := Add([]int32{1, 20, 300}, []int32{4000, 50000, 600000}); e != api.OK || !slices.Equal(s, []int32{4001, 50020, 600300}) {
		t.Errorf("Add: %v, %d", s, e)
	}
}

// products are two numbers and their product, divided, rounded and cut.
func products() [][3]int32 {
	return [][3]int32{
		{98304, 98304, 147456}, {6, 98304, 9}, {65536, 65536, 65536}, {0, top, 0}, {0, low, 0}, {7, 65536, 7}, {7, -65536, -7},
		// At a half and on both sides of it.
		{1, 32768, 0}, {1, 32767, 0}, {1, 32769, 1}, {3, 32768, 2}, {5, 32768, 2}, {7, 32768, 4}, {-1, 32768, 0}, {-1, 32767, 0}, {-1, 32769, -1}, {-3, 32768, -2}, {-5, 32768, -2}, {-7, 32768, -4},
		{1, -32768, 0}, {3, -32768, -2}, {5, -32768, -2}, {-1, -32768, 0}, {-3, -32768, 2}, {-5, -32768, 2}, {1, -32769, -1}, {-1, -32769, 1},
		// At both ends of the narrow range.
		{most, 65536, most}, {most, 65535, most - 128}, {most, 65537, most}, {most, -65536, -most}, {most, -65537, -most}, {-most, 65536, -most}, {-most, 65537, -most}, {-most, -65536, most}, {-most, -65537, most},
		{most + 1, 65536, most}, {-most - 1, 65536, -most}, {most - 1, 65536, most - 1}, {1 - most, 65536, 1 - most}, {2*most - 1, 32768, most}, {2*most - 3, 32768, most - 2}, {1 - 2*most, 32768, -most}, {3 - 2*most, 32768, 2 - most},
		{top, top, most}, {low, low, most}, {top, low, -most}, {low, top, -most}, {top, 1, 32768}, {low, 1, -32768}, {low, -1, 32768}, {top, 256, most}, {top, 255, 8355840}, {low, 256, -most}, {low, -256, most}, {low, 257, -most},
	}
}

// P3.2: one product at a time, of two lists and of a list and a number.
func TestProducts(t *testing.T) {
	for _, c := range products() {
		if s, e := By([]int32{c[0]}, []int32{c[1]}); e != api.OK || len(s) != 1 || s[0] != c[2] {
			t.Errorf("By(%d, %d): %v, %d, not %d", c[0], c[1], s, e, c[2])
		}
		if s, e := Times([]int32{c[0]}, c[1]); e != api.OK || len(s) != 1 || s[0] != c[2] {
			t.Errorf("Times(%d, %d): %v, %d, not %d", c[0], c[1], s, e, c[2])
		}
	}
	if s, e := By([]int32{6, 10, -4}, []int32{98304, -65536, 131072}); e != api.OK || !slices.Equal(s, []int32{9, -10, -8}) {
		t.Errorf("By: %v, %d", s, e)
	}
	if s, e := Times([]int32{6, 0, -4, top, low}, 98304); e != api.OK || !slices.Equal(s, []int32{9, 0, -6, most, -most}) {
		t.Errorf("Times: %v, %d", s, e)
	}
}

// P3.2: each place of a long list, held against big numbers.
func TestPlacesExact(t *testing.T) {
	l := numbers()
	for _, x := range l {
		same := of(len(l), x)
		s, e := Add(l, same)
		p, f := By(l, same)
		q, g := Times(l, x)
		if e != api.OK || f != api.OK || g != api.OK || len(s) != len(l) || len(p) != len(l) || len(q) != len(l) {
			t.Fatalf("by %d: %d, %d, %d", x, e, f, g)
		}
		for i, y := range l {
			if want := sum(x, y); s[i] != want {
				t.Fatalf("Add(%d, %d) = %d, not %d", y, x, s[i], want)
			}
			if want := product(x, y); p[i] != want || q[i] != want {
				t.Fatalf("By and Times(%d, %d) = %d, %d, not %d", y, x, p[i], q[i], want)
			}
		}
	}
}

// P3.2: lists that are empty, that are full, of one number more, and that have not as many; numbers of any size are no error.
func TestShapes(t *testing.T) {
	calls := []struct {
		name string
		call func(a, b []int32) ([]int32, api.Errno)
	}{{"Add", Add}, {"By", By}, {"Times", func(a, _ []int32) ([]int32, api.Errno) { return Times(a, 5) }}}
	for i, c := range []struct {
		a, b []int32
		e    api.Errno
	}{
		{nil, nil, api.OK}, {nil, []int32{}, api.OK}, {[]int32{}, nil, api.OK}, {[]int32{1}, []int32{2}, api.OK}, {of(full, 1), of(full, 2), api.OK}, {of(full, top), of(full, low), api.OK}, {of(full, mild+1), of(full, -mild-1), api.OK},
		{[]int32{1}, nil, api.ErrShape}, {nil, []int32{1}, api.ErrShape}, {[]int32{1, 2}, []int32{1}, api.ErrShape}, {[]int32{1}, []int32{1, 2}, api.ErrShape},
		{of(full+1, 1), of(full+1, 1), api.ErrMany}, {of(5*full, top), of(5*full, low), api.ErrMany},
		{of(full+1, 1), of(full, 1), api.ErrShape}, {of(full, 1), of(full+1, 1), api.ErrShape}, {of(full+2, 1), of(full+1, 1), api.ErrShape}, {nil, of(full+1, 1), api.ErrShape}, {of(full+1, 1), nil, api.ErrShape},
	} {
		for _, f := range calls {
			want := c.e
			if f.name == "Times" {
				want = api.OK
				if len(c.a) > full {
					want = api.ErrMany
				}
			}
			n := 0
			if want == api.OK {
				n = len(c.a)
			}
			if s, e := f.call(c.a, c.b); e != want || len(s) != n {
				t.Errorf("%s %d: %d numbers, %d, not %d, %d", f.name, i, len(s), e, n, want)
			}
		}
	}
}

// P3.2: no list, one number, the greatest one at several places, the least numbers alone, and the ends of a list.
func TestTop(t *testing.T) {
	for i, c := range []struct {
		a     []int32
		place int
		x     int32
		e     api.Errno
	}{
		{nil, 0, 0, api.ErrNone}, {[]int32{}, 0, 0, api.ErrNone}, {of(9, 4)[:0], 0, 0, api.ErrNone},
		{[]int32{0}, 0, 0, api.OK}, {[]int32{-5}, 0, -5, api.OK}, {[]int32{low}, 0, low, api.OK}, {[]int32{top}, 0, top, api.OK},
		{[]int32{3, 9, 9, 1}, 1, 9, api.OK}, {[]int32{9, 3, 9, 9}, 0, 9, api.OK}, {[]int32{1, 2, 3}, 2, 3, api.OK}, {[]int32{3, 2, 1}, 0, 3, api.OK}, {[]int32{0, 0, 0}, 0, 0, api.OK}, {[]int32{-3, -1, -2, -1}, 1, -1, api.OK},
		{[]int32{low, low, low}, 0, low, api.OK}, {[]int32{low, low + 1, low}, 1, low + 1, api.OK}, {[]int32{low, top, low, top}, 1, top, api.OK}, {[]int32{top, low}, 0, top, api.OK},
		{of(full, low), 0, low, api.OK}, {with(full, full-1, 1), full - 1, 1, api.OK}, {with(full, 0, -1), 1, 0, api.OK},
		// The promise names no other error than ErrNone: a longer list has a greatest number too.
		{with(full+1, full, 1), full, 1, api.OK}, {of(3*full, low), 0, low, api.OK},
	} {
		if p, x, e := Top(c.a); p != c.place || x != c.x || e != c.e {
			t.Errorf("Top %d: %d, %d, %d, not %d, %d, %d", i, p, x, e, c.place, c.x, c.e)
		}
	}
}

// roomy makes a list with spare room behind it, and tells both.
func roomy(l []int32) (list, whole []int32) {
	whole = append(slices.Clone(l), 111, 222, 333, 444)
	return whole[:len(l)], whole
}

// DOC.md's rule of memory: what is handed in stays, its spare room too, and each answer is of its own.
func TestMemory(t *testing.T) {
	calls := []func(a, b []int32) []int32{
		func(a, b []int32) []int32 { s, _ := Add(a, b); return s },
		func(a, b []int32) []int32 { s, _ := By(a, b); return s },
		func(a, _ []int32) []int32 { s, _ := Times(a, 98304); return s },
		func(a, b []int32) []int32 { Dot(a, b); Mild(a); Top(b); return nil },
	}
	for _, c := range []struct{ x, y []int32 }{
		{[]int32{5, -6, top}, []int32{low, 7, 1 << 20}}, {nil, nil}, {[]int32{1, 2}, []int32{3}}, {of(full+1, 9), of(full+1, 8)}, {of(full, 3), of(full, -3)},
	} {
		for i, f := range calls {
			a, wholeA := roomy(c.x)
			b, wholeB := roomy(c.y)
			keptA, keptB := slices.Clone(wholeA), slices.Clone(wholeB)
			s, other := f(a, b), f(a, b)
			same := slices.Clone(other)
			s = s[:cap(s)]
			for k := range s {
				s[k] = 77
			}
			if !slices.Equal(wholeA, keptA) || !slices.Equal(wholeB, keptB) {
				t.Errorf("call %d changed what it was handed, or shares it", i)
			}
			if !slices.Equal(other, same) {
				t.Errorf("call %d told two answers that share memory", i)
			}
			clear(wholeA)
			clear(wholeB)
			if !slices.Equal(other, same) {
				t.Errorf("call %d kept what it was handed", i)
			}
		}
	}
}

// One list handed in for both is taken as two alike.
func TestOneForBoth(t *testing.T) {
	a := []int32{98304, -65536, 3}
	if v, e := Dot(a, a); e != api.OK || v != 98304*98304+65536*65536+9 {
		t.Errorf("Dot: %d, %d", v, e)
	}
	if s, e := Add(a, a); e != api.OK || !slices.Equal(s, []int32{196608, -131072, 6}) {
		t.Errorf("Add: %v, %d", s, e)
	}
	if s, e := By(a, a); e != api.OK || !slices.Equal(s, []int32{147456, 65536, 0}) {
		t.Errorf("By: %v, %d", s, e)
	}
	if !slices.Equal(a, []int32{98304, -65536, 3}) {
		t.Errorf("changed: %v", a)
	}
}
