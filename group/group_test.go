package group

import (
	"math"
	"math/big"
	"math/rand"
	"slices"
	"testing"

	"credenza/api"
)

const (
	full  = api.MaxCodes
	top   = int32(math.MaxInt32)
	low   = int32(math.MinInt32)
	most  = uint32(1431655765) // the greatest Scale
	whole = uint32(math.MaxUint32)
	far   = math.MaxInt
	deep  = math.MinInt
)

// wrongBits are numbers of bits that codes may not have; some are right ones but for a bit, a sign or a turn.
var wrongBits = []int{0, 1, 3, 5, 6, 7, 9, 10, 12, 16, 32, 64, -1, -2, -4, -8, 1<<32 + 2, 1<<32 + 4, 1<<32 + 8, 1 << 40, deep + 2, deep, far}

var rightBits = []int{2, 4, 8}

// of makes a list of n times x.
func of[T any](n int, x T) []T { return slices.Repeat([]T{x}, n) }

// with makes a list of n times x, but for y at a place.
func with[T any](n int, x T, place int, y T) []T {
	l := of(n, x)
	l[place] = y
	return l
}

// rise makes n numbers from x on, each by so much above the one ahead of it.
func rise[T int | int32](n int, x, by T) []T {
	l := make([]T, n)
	for i := range l {
		l[i] = x + T(i)*by
	}
	return l
}

// same holds two groups against each other, without the program's Equal.
func same(g, h Group) bool {
	return g.Zero == h.Zero && g.Scale == h.Scale && slices.Equal(g.Codes, h.Codes)
}

// search groups numbers by trying: the least scale by which the greatest code reaches, and of all codes the nearest, the even one of two as near.
func search(x []int32, b int) Group {
	zero, end, last := int64(slices.Min(x)), int64(slices.Max(x)), int64(1)<<b-1
	scale := (end - zero) / last
	for zero+last*scale < end {
		scale++
	}
	g := Group{Zero: int32(zero), Scale: uint32(scale)}
	for _, v := range x {
		best := int64(0)
		for code := range last + 1 {
			away, nearest := off(v, zero+code*scale), off(v, zero+best*scale)
			if away < nearest || away == nearest && scale > 0 && code%2 == 0 {
				best = code
			}
		}
		g.Codes = append(g.Codes, int(best))
	}
	return g
}

// off is how far two numbers are from each other.
func off(a int32, b int64) int64 { return max(int64(a)-b, b-int64(a)) }

// meant is what a code means, in numbers of any size.
func meant(g Group, code int) int32 {
	x := new(big.Int).Mul(big.NewInt(int64(code)), big.NewInt(int64(g.Scale)))
	x.Add(x, big.NewInt(int64(g.Zero)))
	if x.Cmp(big.NewInt(int64(top))) > 0 {
		return top
	}
	return int32(x.Int64())
}

// some makes n numbers, of spreads from none to all that 32 bits have.
func some(r *rand.Rand, n int) []int32 {
	first, spread := int64(int32(r.Uint32())), r.Int63n(1<<32)>>r.Intn(33)
	l := make([]int32, n)
	for i := range l {
		l[i] = int32(min(first+r.Int63n(spread+1), int64(top)))
		if r.Intn(6) == 0 {
			l[i] = int32(min(first+spread*int64(r.Intn(2)), int64(top)))
		}
	}
	return l
}

// P7.1, P7.2: numbers, what they are grouped to, and what that means.
func TestOfAndBack(t *testing.T) {
	for i, c := range []struct {
		x    []int32
		b    int
		g    Group
		back []int32
	}{
		{[]int32{0, 10, 30}, 2, Group{0, 10, []int{0, 1, 3}}, []int32{0, 10, 30}}, {[]int32{0, 10, 30}, 4, Group{0, 2, []int{0, 5, 15}}, []int32{0, 10, 30}}, {[]int32{0, 10, 30}, 8, Group{0, 1, []int{0, 10, 30}}, []int32{0, 10, 30}}, {[]int32{30, 0, 10}, 2, Group{0, 10, []int{3, 0, 1}}, []int32{30, 0, 10}}, {[]int32{-30, -20, 0}, 2, Group{-30, 10, []int{0, 1, 3}}, []int32{-30, -20, 0}}, {[]int32{5, -25, -15}, 2, Group{-25, 10, []int{3, 0, 1}}, []int32{5, -25, -15}},
		// One number, and numbers that are all one.
		{[]int32{0}, 2, Group{0, 0, []int{0}}, []int32{0}}, {[]int32{7}, 4, Group{7, 0, []int{0}}, []int32{7}}, {[]int32{-7}, 8, Group{-7, 0, []int{0}}, []int32{-7}}, {[]int32{low}, 2, Group{low, 0, []int{0}}, []int32{low}}, {[]int32{top}, 8, Group{top, 0, []int{0}}, []int32{top}}, {[]int32{3, 3, 3}, 2, Group{3, 0, []int{0, 0, 0}}, []int32{3, 3, 3}}, {[]int32{low, low}, 4, Group{low, 0, []int{0, 0}}, []int32{low, low}}, {of(full, top), 8, Group{top, 0, of(full, 0)}, of(full, top)}, {of(full, int32(-1)), 2, Group{-1, 0, of(full, 0)}, of(full, int32(-1))},
		// The least and the greatest number: their spread is a multiple of 3, of 15 and of 255.
		{[]int32{low, top}, 2, Group{low, most, []int{0, 3}}, []int32{low, top}}, {[]int32{top, low}, 2, Group{low, most, []int{3, 0}}, []int32{top, low}}, {[]int32{low, top}, 4, Group{low, 286331153, []int{0, 15}}, []int32{low, top}}, {[]int32{top, low}, 8, Group{low, 16843009, []int{255, 0}}, []int32{top, low}}, {[]int32{low, 0, top}, 2, Group{low, most, []int{0, 2, 3}}, []int32{low, 715827882, top}}, {[]int32{low, -1, top}, 2, Group{low, most, []int{0, 1, 3}}, []int32{low, -715827883, top}}, {[]int32{low, 0, top}, 8, Group{low, 16843009, []int{0, 128, 255}}, []int32{low, 8421504, top}},
		{[]int32{low, top - 1}, 2, Group{low, most, []int{0, 3}}, []int32{low, top}}, {[]int32{low + 1, top}, 2, Group{low + 1, most, []int{0, 3}}, []int32{low + 1, top}}, {[]int32{low, top - 3}, 2, Group{low, most - 1, []int{0, 3}}, []int32{low, top - 3}},
		// Spreads that aren't a multiple of 3, 15 or 255: Scale is rounded up.
		{[]int32{0, 1}, 2, Group{0, 1, []int{0, 1}}, []int32{0, 1}}, {[]int32{0, 2}, 2, Group{0, 1, []int{0, 2}}, []int32{0, 2}}, {[]int32{0, 3}, 2, Group{0, 1, []int{0, 3}}, []int32{0, 3}}, {[]int32{0, 4}, 2, Group{0, 2, []int{0, 2}}, []int32{0, 4}}, {[]int32{0, 5}, 2, Group{0, 2, []int{0, 2}}, []int32{0, 4}}, {[]int32{0, 31}, 2, Group{0, 11, []int{0, 3}}, []int32{0, 33}}, {[]int32{0, 29}, 2, Group{0, 10, []int{0, 3}}, []int32{0, 30}}, {[]int32{0, 15}, 4, Group{0, 1, []int{0, 15}}, []int32{0, 15}}, {[]int32{0, 16}, 4, Group{0, 2, []int{0, 8}}, []int32{0, 16}}, {[]int32{0, 255}, 8, Group{0, 1, []int{0, 255}}, []int32{0, 255}}, {[]int32{0, 256}, 8, Group{0, 2, []int{0, 128}}, []int32{0, 256}}, {[]int32{0, 1}, 8, Group{0, 1, []int{0, 1}}, []int32{0, 1}}, {[]int32{-1, 3}, 2, Group{-1, 2, []int{0, 2}}, []int32{-1, 3}},
		// Numbers just half between two codes, and beside them.
		{[]int32{0, 5, 15, 25, 30}, 2, Group{0, 10, []int{0, 0, 2, 2, 3}}, []int32{0, 0, 20, 20, 30}}, {[]int32{0, 4, 6, 14, 16, 24, 26, 30}, 2, Group{0, 10, []int{0, 0, 1, 1, 2, 2, 3, 3}}, []int32{0, 0, 10, 10, 20, 20, 30, 30}}, {[]int32{-30, -25, -15, -5, 0}, 2, Group{-30, 10, []int{0, 0, 2, 2, 3}}, []int32{-30, -30, -10, -10, 0}}, {[]int32{0, 1, 3, 5, 6}, 2, Group{0, 2, []int{0, 0, 2, 2, 3}}, []int32{0, 0, 4, 4, 6}}, {[]int32{0, 1, 3, 27, 29, 30}, 4, Group{0, 2, []int{0, 0, 2, 14, 14, 15}}, []int32{0, 0, 4, 28, 28, 30}}, {[]int32{0, 1, 3, 507, 509, 510}, 8, Group{0, 2, []int{0, 0, 2, 254, 254, 255}}, []int32{0, 0, 4, 508, 508, 510}}, {[]int32{low, low + 1, low + 3, low + 6}, 2, Group{low, 2, []int{0, 0, 2, 3}}, []int32{low, low, low + 4, low + 6}},
		// What is meant would lie above the wide range.
		{[]int32{top - 5, top}, 2, Group{top - 5, 2, []int{0, 2}}, []int32{top - 5, top - 1}}, {[]int32{top - 7, top - 3, top}, 2, Group{top - 7, 3, []int{0, 1, 2}}, []int32{top - 7, top - 4, top - 1}}, {[]int32{top - 31, top}, 2, Group{top - 31, 11, []int{0, 3}}, []int32{top - 31, top}}, {[]int32{top - 16, top - 1, top}, 4, Group{top - 16, 2, []int{0, 8, 8}}, []int32{top - 16, top, top}}, {[]int32{top - 1, top, top - 256}, 8, Group{top - 256, 2, []int{128, 128, 0}}, []int32{top, top, top - 256}},
		// MaxCodes of them.
		{rise[int32](full, 0, 1), 8, Group{0, 1, rise(full, 0, 1)}, rise[int32](full, 0, 1)}, {rise[int32](full, -256, 2), 8, Group{-256, 2, rise(full, 0, 1)}, rise[int32](full, -256, 2)}, {rise[int32](full-1, -1, 1), 8, Group{-1, 1, rise(full-1, 0, 1)}, rise[int32](full-1, -1, 1)}, {with(full, int32(4), full-1, 1), 2, Group{1, 1, with(full, 3, full-1, 0)}, with(full, int32(4), full-1, 1)}, {with(full, low, 0, top), 4, Group{low, 286331153, with(full, 0, 0, 15)}, with(full, low, 0, top)}, {with(full, low, full-1, top), 8, Group{low, 16843009, with(full, 0, full-1, 255)}, with(full, low, full-1, top)},
	} {
		g, e := Of(c.x, c.b)
		if e != api.OK || !same(g, c.g) {
			t.Errorf("Of %d: %v, %d, not %v", i, g, e, c.g)
		}
		if x := Back(c.g); !slices.Equal(x, c.back) {
			t.Errorf("Back %d: %v, not %v", i, x, c.back)
		}
		if e := Right(g, c.b); e != api.OK {
			t.Errorf("Right %d: %d", i, e)
		}
	}
}

// P7.1: what isn't grouped, and which error is told where several hold.
func TestOfRefused(t *testing.T) {
	for i, c := range []struct {
		x []int32
		b int
		e api.Errno
	}{
		{nil, 2, api.ErrNone}, {nil, 4, api.ErrNone}, {nil, 8, api.ErrNone}, {[]int32{}, 2, api.ErrNone}, {of(5, top)[:0], 8, api.ErrNone},
		{of(full+1, int32(0)), 2, api.ErrMany}, {of(full+1, low), 4, api.ErrMany}, {of(full+1, top), 8, api.ErrMany}, {rise[int32](full+1, 0, 1), 8, api.ErrMany}, {of(2*full, int32(1)), 2, api.ErrMany}, {of(1<<16, int32(1)), 8, api.ErrMany}, {of(1<<16+1, int32(1)), 4, api.ErrMany},
	} {
		if g, e := Of(c.x, c.b); e != c.e || !same(g, Group{}) {
			t.Errorf("Of %d: %v, %d, not %d", i, g, e, c.e)
		}
	}
	for _, b := range wrongBits {
		for i, x := range [][]int32{nil, {}, {0}, {0, 10, 30}, {low, top}, of(full, top), of(full+1, int32(0))} {
			if g, e := Of(x, b); e != api.ErrBits || !same(g, Group{}) {
				t.Errorf("Of list %d, of %d bits: %v, %d", i, b, g, e)
			}
		}
	}
}

// P7.1: groups that are right and that aren't, and which error is told where several hold.
func TestRight(t *testing.T) {
	for i, c := range []struct {
		g Group
		b int
		e api.Errno
	}{
		{Group{0, 10, []int{0, 1, 3}}, 2, api.OK}, {Group{0, 10, []int{0, 1, 3}}, 4, api.OK}, {Group{0, 10, []int{0, 1, 3}}, 8, api.OK}, {Group{low, most, of(full, 3)}, 2, api.OK}, {Group{top, most, of(full, 15)}, 4, api.OK}, {Group{top, most, of(full, 255)}, 8, api.OK}, {Group{low, 1, []int{255}}, 8, api.OK}, {Group{5, 0, []int{0}}, 2, api.OK}, {Group{5, 0, of(full, 0)}, 8, api.OK}, {Group{-5, 7, of(full, 0)}, 4, api.OK}, {Group{0, most, []int{0}}, 2, api.OK}, {Group{0, most - 1, []int{3}}, 2, api.OK},
		// A group that Of would never make is right too.
		{Group{0, 9, []int{3, 3}}, 2, api.OK}, {Group{7, 9, []int{1}}, 8, api.OK},
		{Group{}, 2, api.ErrNone}, {Group{}, 4, api.ErrNone}, {Group{}, 8, api.ErrNone}, {Group{5, 10, []int{}}, 2, api.ErrNone}, {Group{5, most + 1, nil}, 8, api.ErrNone}, {Group{5, 1, of(3, 1)[:0]}, 8, api.ErrNone},
		{Group{0, 1, of(full+1, 0)}, 2, api.ErrMany}, {Group{0, 0, of(full+1, 0)}, 4, api.ErrMany}, {Group{0, 1, of(full+1, 255)}, 8, api.ErrMany}, {Group{0, whole, of(full+1, -1)}, 8, api.ErrMany}, {Group{0, 0, of(full+1, 9)}, 2, api.ErrMany}, {Group{0, 1, of(1<<16, 1)}, 2, api.ErrMany}, {Group{0, 1, of(1<<16+3, 1)}, 2, api.ErrMany},
		{Group{0, most + 1, []int{0}}, 2, api.ErrScale}, {Group{0, most + 1, []int{0}}, 4, api.ErrScale}, {Group{0, most + 1, []int{0, 255}}, 8, api.ErrScale}, {Group{0, whole, []int{1}}, 8, api.ErrScale}, {Group{0, 1 << 31, []int{1}}, 2, api.ErrScale}, {Group{0, most + 1, of(full, 1)}, 8, api.ErrScale},
		{Group{0, 0, []int{1}}, 2, api.ErrScale}, {Group{0, 0, []int{0, 15}}, 4, api.ErrScale}, {Group{0, 0, []int{255, 0}}, 8, api.ErrScale}, {Group{9, 0, with(full, 0, full-1, 1)}, 8, api.ErrScale}, {Group{9, 0, with(full, 0, 0, 1)}, 2, api.ErrScale}, {Group{9, 0, of(full, 2)}, 2, api.ErrScale},
		// Its Scale and a code are wrong: the Scale is told.
		{Group{0, most + 1, []int{4}}, 2, api.ErrScale}, {Group{0, most + 1, []int{-1, 0}}, 8, api.ErrScale}, {Group{0, whole, []int{256}}, 8, api.ErrScale}, {Group{0, 0, []int{4}}, 2, api.ErrScale}, {Group{0, 0, []int{0, -1}}, 4, api.ErrScale}, {Group{0, 0, []int{256}}, 8, api.ErrScale}, {Group{0, 0, []int{far}}, 8, api.ErrScale}, {Group{0, 0, []int{deep}}, 2, api.ErrScale}, {Group{0, 0, []int{1 << 32}}, 2, api.ErrScale}, {Group{0, 0, []int{256, 1}}, 8, api.ErrScale},
		{Group{0, 1, []int{4}}, 2, api.ErrRange}, {Group{0, 1, []int{16}}, 4, api.ErrRange}, {Group{0, 1, []int{256}}, 8, api.ErrRange}, {Group{0, 1, []int{-1}}, 2, api.ErrRange}, {Group{0, 1, []int{-1}}, 4, api.ErrRange}, {Group{0, 1, []int{-1}}, 8, api.ErrRange}, {Group{0, most, []int{4}}, 2, api.ErrRange}, {Group{0, most, []int{255}}, 4, api.ErrRange}, {Group{0, most, []int{15}}, 2, api.ErrRange}, {Group{0, 1, []int{far}}, 8, api.ErrRange}, {Group{0, 1, []int{deep}}, 8, api.ErrRange}, {Group{0, 1, []int{1 << 32}}, 8, api.ErrRange}, {Group{0, 1, []int{1<<32 + 1}}, 2, api.ErrRange}, {Group{0, 1, []int{-256}}, 8, api.ErrRange}, {Group{0, 1, []int{deep + 1}}, 2, api.ErrRange},
		{Group{0, 1, with(full, 3, 0, 4)}, 2, api.ErrRange}, {Group{0, 1, with(full, 15, full-1, 16)}, 4, api.ErrRange}, {Group{0, 1, with(full, 255, full/2, -1)}, 8, api.ErrRange}, {Group{0, 1, with(full, 255, full-1, 256)}, 8, api.ErrRange},
	} {
		if e := Right(c.g, c.b); e != c.e {
			t.Errorf("Right %d: %d, not %d", i, e, c.e)
		}
	}
	for _, b := range wrongBits {
		for i, g := range []Group{{}, {0, 10, []int{0, 1}}, {0, 0, []int{0}}, {0, 0, []int{1}}, {0, whole, []int{-1}}, {0, 1, []int{far}}, {0, 1, of(full, 0)}, {0, 1, of(full+1, 0)}, {0, whole, of(full+1, -1)}} {
			if e := Right(g, b); e != api.ErrBits {
				t.Errorf("Right of group %d, with %d bits: %d", i, b, e)
			}
		}
	}
}

// P7.1: each code about those that there are, at each place, with each kind of Scale.
func TestRightEachCode(t *testing.T) {
	for _, b := range rightBits {
		for code := -3; code <= 1<<b+3; code++ {
			for _, scale := range []uint32{0, 1, 2, most - 1, most, most + 1, whole} {
				want := api.OK
				switch {
				case scale > most, scale == 0 && code != 0:
					want = api.ErrScale
				case code < 0, code >= 1<<b:
					want = api.ErrRange
				}
				for place := range 5 {
					if e := Right(Group{3, scale, with(5, 0, place, code)}, b); e != want {
						t.Fatalf("%d bits, code %d at %d, Scale %d: %d, not %d", b, code, place, scale, e, want)
					}
				}
			}
		}
	}
}

// P7.2: what codes mean, and what they mean above the wide range.
func TestOne(t *testing.T) {
	for i, c := range []struct {
		zero  int32
		scale uint32
		code  int
		want  int32
	}{
		{0, 10, 0, 0}, {0, 10, 1, 10}, {0, 10, 3, 30}, {-30, 10, 3, 0}, {-35, 10, 3, -5}, {5, 0, 0, 5}, {5, 0, 255, 5}, {low, 0, 255, low}, {top, 0, 255, top}, {5, 7, 0, 5}, {low, most, 0, low}, {top, most, 0, top},
		{low, most, 1, -715827883}, {low, most, 2, 715827882}, {low, most, 3, top}, {low, most - 1, 3, top - 3}, {low + 1, most, 3, top}, {low, most, 4, top}, {low, most, 15, top}, {low, most, 255, top}, {0, most, 255, top}, {top, most, 255, top}, {-1, most, 1, 1431655764}, {-1, most, 2, top}, {5, most, 1, 1431655770}, {5, most, 2, top},
		{low, 16843009, 255, top}, {low, 16843009, 128, 8421504}, {low, 16843010, 255, top}, {low, 16843008, 255, top - 255}, {top, 1, 0, top}, {top, 1, 1, top}, {top, 1, 255, top}, {top - 254, 1, 254, top}, {top - 254, 1, 255, top}, {top - 255, 1, 255, top}, {top - 256, 1, 255, top - 1}, {low, 1, 255, low + 255}, {low, 1, 1, low + 1},
	} {
		g := Group{Zero: c.zero, Scale: c.scale}
		if x := One(g, c.code); x != c.want {
			t.Errorf("One %d: %d, not %d", i, x, c.want)
		}
		if c.scale > 0 || c.code == 0 {
			g.Codes = []int{c.code}
			if x := Back(g); !slices.Equal(x, []int32{c.want}) {
				t.Errorf("Back %d: %v, not %d", i, x, c.want)
			}
		}
		// The codes that a group has say nothing of what another one means.
		g.Codes = []int{9, 1, 200}
		if x := One(g, c.code); x != c.want {
			t.Errorf("One %d beside other codes: %d, not %d", i, x, c.want)
		}
	}
}

// P7.2: every code, at the ends of Zero and Scale and between them, held against numbers of any size; and as many at a time.
func TestEveryCode(t *testing.T) {
	r := rand.New(rand.NewSource(21))
	zeros := []int32{low, low + 1, -1 << 24, -1, 0, 1, 1 << 24, top - 255, top - 1, top}
	scales := []uint32{0, 1, 2, 255, 1 << 16, 16843008, 16843009, 16843010, 1 << 30, most - 1, most}
	for range 40 {
		zeros = append(zeros, int32(r.Uint32()))
		scales = append(scales, uint32(r.Int63n(int64(most)+1))>>r.Intn(32))
	}
	for _, zero := range zeros {
		for _, scale := range scales {
			g := Group{Zero: zero, Scale: scale}
			want := make([]int32, 256)
			for code := range want {
				want[code] = meant(g, code)
				if x := One(g, code); x != want[code] {
					t.Fatalf("One(%v, %d): %d, not %d", g, code, x, want[code])
				}
			}
			if g.Codes = rise(256, 0, 1); scale == 0 {
				g.Codes = of(256, 0)
			}
			if x := Back(g); !slices.Equal(x, want) {
				t.Fatalf("Back(%v): %v", g, x)
			}
		}
	}
}

// P7.2: Equal, where all is the same, and where one thing isn't.
func TestEqual(t *testing.T) {
	g := Group{-7, 10, []int{0, 1, 3}}
	for i, c := range []struct {
		g, h Group
		want bool
	}{
		{g, g, true}, {g, Group{-7, 10, []int{0, 1, 3}}, true}, {g, Group{-7, 10, []int{0, 1, 3, 9}[:3]}, true}, {Group{}, Group{}, true}, {Group{Codes: []int{}}, Group{}, true}, {Group{5, 9, nil}, Group{5, 9, []int{4}[:0]}, true}, {Group{low, whole, of(full, far)}, Group{low, whole, of(full, far)}, true}, {Group{1, 2, of(full+1, -1)}, Group{1, 2, of(full+1, -1)}, true},
		{g, Group{-6, 10, []int{0, 1, 3}}, false}, {g, Group{7, 10, []int{0, 1, 3}}, false}, {Group{low, 1, []int{0}}, Group{top, 1, []int{0}}, false}, {Group{low, 1, []int{0}}, Group{0, 1, []int{0}}, false},
		{g, Group{-7, 11, []int{0, 1, 3}}, false}, {g, Group{-7, 0, []int{0, 1, 3}}, false}, {g, Group{-7, 10 + 1<<31, []int{0, 1, 3}}, false}, {g, Group{-7, 10 + 1<<16, []int{0, 1, 3}}, false},
		{g, Group{-7, 10, []int{1, 1, 3}}, false}, {g, Group{-7, 10, []int{0, 2, 3}}, false}, {g, Group{-7, 10, []int{0, 1, 2}}, false}, {g, Group{-7, 10, []int{1, 0, 3}}, false}, {g, Group{-7, 10, []int{0, 1, 3 + 1<<32}}, false}, {g, Group{-7, 10, []int{0, 1, 3 + 256}}, false}, {Group{0, 1, of(full, 1)}, Group{0, 1, with(full, 1, full-1, 2)}, false},
		{g, Group{-7, 10, []int{0, 1}}, false}, {g, Group{-7, 10, []int{0, 1, 3, 0}}, false}, {g, Group{-7, 10, []int{1, 3}}, false}, {g, Group{-7, 10, nil}, false}, {Group{Codes: []int{0}}, Group{}, false}, {Group{Codes: []int{0, 0}}, Group{Codes: []int{0}}, false},
		// Codes that mean the same are others all the same.
		{Group{5, 0, []int{0}}, Group{5, 0, []int{1}}, false}, {Group{0, 2, []int{1}}, Group{0, 1, []int{2}}, false}, {Group{top, 1, []int{1}}, Group{top, 1, []int{2}}, false},
	} {
		if Equal(c.g, c.h) != c.want || Equal(c.h, c.g) != c.want {
			t.Errorf("Equal %d: %v, %v, not %v", i, Equal(c.g, c.h), Equal(c.h, c.g), c.want)
		}
	}
}

// checkGrouped asks of numbers that they are grouped as by trying, and all that P7.3 says of them.
func checkGrouped(t *testing.T, x []int32, b int) {
	t.Helper()
	g, e := Of(x, b)
	if want := search(x, b); e != api.OK || !same(g, want) {
		t.Fatalf("Of(%v, %d): %v, %d, not %v", x, b, g, e, want)
	}
	if e := Right(g, b); e != api.OK {
		t.Fatalf("Right(Of(%v, %d)): %d", x, b, e)
	}
	back, least := Back(g), slices.Min(x)
	if len(back) != len(x) {
		t.Fatalf("Back(Of(%v, %d)): %v", x, b, back)
	}
	for i, v := range x {
		if 2*off(v, int64(back[i])) > int64(g.Scale) || v == least && back[i] != v || back[i] != One(g, g.Codes[i]) {
			t.Fatalf("Back(Of(%v, %d)): %v, at %d", x, b, back, i)
		}
	}
}

// P7.1, P7.3: any numbers, of each spread, held against a search.
func TestGrouped(t *testing.T) {
	r := rand.New(rand.NewSource(22))
	for _, b := range rightBits {
		for range 1500 {
			checkGrouped(t, some(r, 1+r.Intn(12)), b)
		}
		for _, n := range []int{1, 2, 16, full - 1, full} {
			for range 10 {
				checkGrouped(t, some(r, n), b)
			}
		}
		for _, x := range [][]int32{{low, top}, {top, low}, {low, -1, 0, 1, top}, {low, low + 1}, {top - 1, top}, {low + 1, top}, {low, top - 1}, {0, top}, {low, 0}, {-1, top}, {low, -1}} {
			checkGrouped(t, x, b)
		}
	}
}

// P7.3: each small spread with each number within it, at both ends of the wide range and about 0; so are all halves between two codes.
func TestSmallSpreads(t *testing.T) {
	for _, b := range rightBits {
		for spread := range int64(2*(1<<b) + 8) {
			if b == 8 && spread > 40 && spread < 240 {
				continue
			}
			for _, first := range []int64{int64(low), -spread / 2, int64(top) - spread} {
				x := []int32{int32(first), int32(first + spread)}
				for v := range min(spread, full-2) {
					x = append(x, int32(first+spread-v))
				}
				checkGrouped(t, x, b)
			}
		}
	}
}

// P7.3: numbers that are all one are meant as they are, of how many bits and how many they be.
func TestAllOne(t *testing.T) {
	for _, b := range rightBits {
		for _, n := range []int{1, 2, 3, full} {
			for _, v := range []int32{low, low + 1, -1, 0, 1, 65536, top - 1, top} {
				g, e := Of(of(n, v), b)
				if e != api.OK || !same(g, Group{v, 0, of(n, 0)}) || !slices.Equal(Back(g), of(n, v)) {
					t.Errorf("%d times %d, with %d bits: %v, %d", n, v, b, g, e)
				}
			}
		}
	}
}

// roomy makes a list with spare room behind it, and tells both.
func roomy[T any](l []T, spare T) (list, whole []T) {
	whole = append(slices.Clone(l), of(4, spare)...)
	return whole[:len(l)], whole
}

// spoil writes over all that an answer has, its spare room too.
func spoil[T any](l []T, x T) {
	l = l[:cap(l)]
	for i := range l {
		l[i] = x
	}
}

// checkMemory asks of a call that it leaves what it is handed, its spare room too, and that each answer is of its own.
func checkMemory[A, B int | int32](t *testing.T, name string, arg []A, call func([]A) []B) {
	t.Helper()
	list, whole := roomy(arg, 111)
	kept := slices.Clone(whole)
	first, other := call(list), call(list)
	same := slices.Clone(other)
	spoil(first, 77)
	if !slices.Equal(whole, kept) || !slices.Equal(other, same) {
		t.Errorf("%s changed or shared memory", name)
	}
	clear(whole)
	if !slices.Equal(other, same) {
		t.Errorf("%s kept what it was handed", name)
	}
}

// DOC.md's rule of memory, where a call answers and where it refuses.
func TestMemory(t *testing.T) {
	for _, b := range []int{2, 4, 8, 3} {
		for _, x := range [][]int32{nil, {5}, {0, 10, 30}, {30, 0, 10}, {low, top}, of(full, int32(9)), of(full+1, int32(9))} {
			checkMemory(t, "Of", x, func(l []int32) []int { g, _ := Of(l, b); return g.Codes })
		}
		for _, codes := range [][]int{nil, {0}, {3, 0, 1}, {-1, 4}, {0, 300}, of(full, 1), of(full+1, 1)} {
			for _, scale := range []uint32{0, 10, most, whole} {
				checkMemory(t, "Right", codes, func(l []int) []int { return []int{int(Right(Group{5, scale, l}, b))} })
				checkMemory(t, "Back", codes, func(l []int) []int32 { return Back(Group{5, scale, l}) })
				checkMemory(t, "One", codes, func(l []int) []int32 { return []int32{One(Group{5, scale, l}, b)} })
				checkMemory(t, "Equal", codes, func(l []int) []int {
					if Equal(Group{5, scale, l}, Group{5, scale, l}) {
						return []int{1}
					}
					return nil
				})
			}
		}
	}
}

// P1: calls end and don't panic, at groups and codes of which nothing else is promised.
func TestAnyArguments(t *testing.T) {
	lists := [][]int{nil, {-1}, {256}, {far, deep}, of(full+1, far), of(1<<16, deep)}
	for _, zero := range []int32{low, 0, top} {
		for _, scale := range []uint32{0, 1, most + 1, whole} {
			for _, codes := range lists {
				g := Group{zero, scale, codes}
				if n := len(Back(g)); n != len(codes) && n != 0 {
					t.Errorf("Back of %d codes: %d numbers", len(codes), n)
				}
				for _, code := range []int{-1, 0, 256, 1 << 31, 1 << 32, far, deep} {
					One(g, code)
				}
				for _, b := range append(rightBits, wrongBits...) {
					Right(g, b)
				}
			}
		}
	}
}

// What a call answers is its own: no call leaves anything for the next one.
func TestNothingKept(t *testing.T) {
	want, _ := Of([]int32{0, 10, 30}, 2)
	for _, x := range [][]int32{nil, {low, top}, of(full+1, int32(3)), {9}} {
		for _, b := range []int{2, 8, 3} {
			Of(x, b)
			Right(Group{1, 0, []int{9}}, b)
			if g, e := Of([]int32{0, 10, 30}, 2); e != api.OK || !same(g, want) {
				t.Errorf("Of, once more: %v, %d", g, e)
			}
		}
	}
}

// The chapter's example: Zero 0, Scale 10, codes 0, 1, 3.
func TestExample(t *testing.T) {
	g, e := Of([]int32{0, 10, 30}, 2)
	if e != api.OK || g.Zero != 0 || g.Scale != 10 || !slices.Equal(g.Codes, []int{0, 1, 3}) {
		t.Errorf("Of: %v, %d", g, e)
	}
	if x := Back(g); !slices.Equal(x, []int32{0, 10, 30}) {
		t.Errorf("Back: %v", x)
	}
}
