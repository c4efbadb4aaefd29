package expo

import (
	"math"
	"math/big"
	"math/rand"
	"slices"
	"testing"

	"credenza/api"
	"credenza/fix"
)

const (
	top = int32(math.MaxInt32)
	low = int32(math.MinInt32)
)

func num(v int64) *big.Int { return big.NewInt(v) }

// floor tells a / b in big numbers, rounded down; b is above 0.
func floor(a, b *big.Int) *big.Int { return new(big.Int).Div(a, b) }

// near tells a / b in big numbers, halves to the even one; b is above 0.
func near(a, b *big.Int) *big.Int {
	q, rest := new(big.Int).DivMod(a, b, new(big.Int))
	side := rest.Lsh(rest, 1).Cmp(b)
	if side > 0 || side == 0 && q.Bit(0) == 1 {
		q.Add(q, num(1))
	}
	return q
}

// power is the document's word for Exp, in big numbers and from the innermost bracket outwards.
func power(x int32) int {
	one := num(1 << 16)
	t := near(new(big.Int).Mul(num(min(int64(x), 0)), num(94548)), one)
	n := floor(t, one)
	f := new(big.Int).Sub(t, new(big.Int).Mul(n, one))
	p := num(5180)
	for _, step := range []int64{14743, 45613, 65536} {
		p = floor(new(big.Int).Mul(f, p), one)
		p.Add(p, num(step))
	}
	halves := -n.Int64()
	if halves > 62 {
		return 0
	}
	return int(near(p, new(big.Int).Lsh(num(1), uint(halves))).Int64())
}

// turns tells the numbers, falling, at which the exponent's whole part is another one than at the number above it.
func turns() []int32 {
	whole := func(x int32) int64 {
		return floor(near(new(big.Int).Mul(num(int64(x)), num(94548)), num(1<<16)), num(1<<16)).Int64()
	}
	l := []int32{}
	for n := int64(0); n > -70; n-- {
		// One before the guess and some behind it: ln 2 is a bit below 45427 / 2^16.
		for x := int32(n*45427) - 4; x <= int32(n*45427)+80 && x < 0; x++ {
			if whole(x) != whole(x+1) {
				l = append(l, x)
			}
		}
	}
	return l
}

// P2.1, P2.2: the chapter's examples, 0 and above it, both ends, and what a power falls to.
func TestExp(t *testing.T) {
	for _, c := range []struct {
		x    int32
		want int
	}{
		{0, 65536}, {1, 65536}, {2, 65536}, {65536, 65536}, {top - 1, 65536}, {top, 65536},
		{-1, 65534}, {-2, 65534}, {-32768, 39752}, {-65536, 24108}, {-131072, 8871}, {-655360, 3}, {-720896, 1},
		{-45425, 32768}, {-45426, 32768}, {-45427, 32767}, {-90852, 16384}, {-90853, 16384},
		{-772246, 1}, {-772247, 0}, {-772248, 0}, {-786432, 0},
		{-13*65536 + 1, 0}, {-13 * 65536, 0}, {-13*65536 - 1, 0}, {-62 * 45427, 0}, {-63 * 45427, 0}, {-64 * 45427, 0}, {-65 * 45427, 0},
		{low + 1, 0}, {low, 0},
	} {
		if e := Exp(c.x); e != c.want {
			t.Errorf("Exp(%d) = %d, not %d", c.x, e, c.want)
		}
	}
}

// P2.1: the power, held against big numbers, where the exponent's whole part changes and elsewhere.
func TestExpExact(t *testing.T) {
	l := []int32{low, low + 1, top - 1, top}
	marks := turns()
	if len(marks) < 60 {
		t.Fatalf("only %d places where the whole part changes", len(marks))
	}
	for _, x := range marks {
		for d := int32(-3); d <= 3; d++ {
			l = append(l, x+d)
		}
	}
	for x := int32(-14 * 65536); x <= 300; x += 7 {
		l = append(l, x)
	}
	for x := int32(-2000); x <= 2000; x++ {
		l = append(l, x)
	}
	r := rand.New(rand.NewSource(2))
	for range 3000 {
		l = append(l, int32(r.Uint32())>>r.Intn(31))
	}
	for _, x := range l {
		if e, want := Exp(x), power(x); e != want {
			t.Fatalf("Exp(%d) = %d, not %d", x, e, want)
		}
	}
}

// P2.1: the power is near that of e: what a wrong factor in the document's own words would be seen by.
func TestExpNear(t *testing.T) {
	for x := int32(-12 * 65536); x <= 0; x += 101 {
		want := math.Exp(float64(x)/65536) * 65536
		if e := Exp(x); math.Abs(float64(e)-want) > want/400+1 {
			t.Errorf("Exp(%d) = %d, not near %f", x, e, want)
		}
	}
}

// P2.2: Exp never falls when x rises, and is 0 from -13 times 2^16 down.
func TestExpRises(t *testing.T) {
	last := 0
	for x := int32(-14 * 65536); x <= 1000; x++ {
		e := Exp(x)
		if e < last || e > 1<<16 {
			t.Fatalf("Exp(%d) = %d behind %d", x, e, last)
		}
		if x <= -13*65536 && e != 0 {
			t.Fatalf("Exp(%d) = %d", x, e)
		}
		last = e
	}
	if last != 1<<16 {
		t.Errorf("Exp rises to %d", last)
	}
	for x := int64(low); x <= -13*65536; x += 4099 {
		if e := Exp(int32(x)); e != 0 {
			t.Fatalf("Exp(%d) = %d", x, e)
		}
	}
}

// P2.1: the root at 0, at squares and beside them, and at the greatest numbers.
func TestRoot(t *testing.T) {
	for _, c := range [][2]uint64{
		{0, 0}, {1, 1}, {2, 1}, {3, 1}, {4, 2}, {8, 2}, {9, 3}, {15, 3}, {16, 4}, {17, 4}, {1e18, 1e9}, {1e18 - 1, 1e9 - 1},
		{1<<62 - 1, 1<<31 - 1}, {1 << 62, 1 << 31}, {1<<63 - 1, 3037000499}, {1 << 63, 3037000499},
		{18446744065119617024, 1<<32 - 2}, {18446744065119617025, 1<<32 - 1}, {math.MaxUint64 - 1, 1<<32 - 1}, {math.MaxUint64, 1<<32 - 1},
	} {
		if r := Root(c[0]); r != c[1] {
			t.Errorf("Root(%d) = %d, not %d", c[0], r, c[1])
		}
	}
}

// roots are numbers of 32 bits: all small ones, those by each power of two, and some others.
func roots() []uint64 {
	l := []uint64{}
	for v := uint64(0); v <= 3000; v++ {
		l = append(l, v, math.MaxUint32-v)
	}
	for n := 10; n <= 31; n++ {
		for d := uint64(0); d <= 2; d++ {
			l = append(l, 1<<n-d, 1<<n+d)
		}
	}
	r := rand.New(rand.NewSource(3))
	for range 3000 {
		l = append(l, uint64(r.Uint32()>>r.Intn(32)))
	}
	return l
}

// P2.2: a square's root is the number; that of the number ahead of a square is one less, and all up to the next square have it.
func TestRootOfSquares(t *testing.T) {
	for _, v := range roots() {
		if r := Root(v * v); r != v {
			t.Fatalf("Root(%d) = %d, not %d", v*v, r, v)
		}
		if r := Root(v*v + 2*v); r != v {
			t.Fatalf("Root(%d) = %d, not %d", v*v+2*v, r, v)
		}
		if v == 0 {
			continue
		}
		if r := Root(v*v - 1); r != v-1 {
			t.Fatalf("Root(%d) = %d, not %d", v*v-1, r, v-1)
		}
	}
}

// P2.1: the root, held against big numbers.
func TestRootExact(t *testing.T) {
	r := rand.New(rand.NewSource(4))
	for range 20000 {
		v := r.Uint64() >> r.Intn(64)
		want := new(big.Int).Sqrt(new(big.Int).SetUint64(v)).Uint64()
		if x := Root(v); x != want {
			t.Fatalf("Root(%d) = %d, not %d", v, x, want)
		}
	}
}

// P2.1: the reciprocal root of 1, of what isn't above 0, of the greatest ones, and of the chapter's examples.
func TestRsqrt(t *testing.T) {
	for _, c := range []struct {
		x    int64
		want int32
	}{
		{1, 1 << 24}, {0, 1 << 24}, {-1, 1 << 24}, {-2, 1 << 24}, {-65536, 1 << 24}, {math.MinInt64 + 1, 1 << 24}, {math.MinInt64, 1 << 24},
		{2, 11863283}, {3, 9686330}, {4, 1 << 23}, {5, 7502999}, {16, 1 << 22},
		{65535, 65536}, {65536, 65536}, {65537, 65535}, {131072, 46340}, {262144, 32768},
		{1 << 46, 2}, {1<<46 + 1, 1}, {1 << 47, 1}, {1<<48 - 1, 1}, {1 << 48, 1}, {1<<48 + 1, 0}, {1 << 49, 0}, {math.MaxInt64 - 1, 0}, {math.MaxInt64, 0},
	} {
		if r := Rsqrt(c.x); r != c.want {
			t.Errorf("Rsqrt(%d) = %d, not %d", c.x, r, c.want)
		}
	}
}

// longs are numbers of 64 bits, rising.
func longs() []int64 {
	l := []int64{math.MinInt64, math.MinInt64 + 1, math.MaxInt64 - 1, math.MaxInt64}
	for v := int64(-300); v <= 70000; v++ {
		l = append(l, v)
	}
	for n := 16; n <= 62; n++ {
		for d := int64(-3); d <= 3; d++ {
			l = append(l, 1<<n+d, -1<<n+d)
		}
	}
	r := rand.New(rand.NewSource(5))
	for range 5000 {
		l = append(l, int64(r.Uint64())>>r.Intn(63))
	}
	slices.Sort(l)
	return slices.Compact(l)
}

// P2.1: the reciprocal root, held against big numbers; P2.2: it never rises.
func TestRsqrtExact(t *testing.T) {
	last := int32(1 << 24)
	for _, x := range longs() {
		want := new(big.Int).Sqrt(floor(num(1<<48), num(max(x, 1)))).Int64()
		r := Rsqrt(x)
		if int64(r) != want {
			t.Fatalf("Rsqrt(%d) = %d, not %d", x, r, want)
		}
		if r > last {
			t.Fatalf("Rsqrt(%d) = %d behind %d", x, r, last)
		}
		last = r
	}
}

// P2.1: one by a number, 0 and numbers below it among them.
func TestRecip(t *testing.T) {
	for _, c := range [][2]int32{
		{65536, 65536}, {131072, 32768}, {32768, 131072}, {196608, 21845}, {98304, 43691},
		{-65536, -65536}, {-131072, -32768}, {-196608, -21845}, {-98304, -43691},
		{0, top}, {1, top}, {2, top}, {3, 1431655765}, {-1, low}, {-2, low}, {-3, -1431655765},
		{top, 2}, {low, -2}, {low + 1, -2},
	} {
		if r := Recip(c[0]); r != c[1] {
			t.Errorf("Recip(%d) = %d, not %d", c[0], r, c[1])
		}
	}
	for _, x := range longs() {
		if y := int32(x); Recip(y) != fix.Div(api.One, y) {
			t.Fatalf("Recip(%d) = %d", y, Recip(y))
		}
	}
}
