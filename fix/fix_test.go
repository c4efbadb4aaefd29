package fix

import (
	"math"
	"math/big"
	"math/rand"
	"slices"
	"testing"

	"credenza/api"
)

const (
	top = int32(math.MaxInt32)
	low = int32(math.MinInt32)
)

// exact rounds a / b (b above 0) in big numbers, halves to the even one: the document's word, by another way than the program's.
func exact(a, b *big.Int) *big.Int {
	twice := new(big.Int).Lsh(a, 1)
	twice.Add(twice, b)
	under := new(big.Int).Lsh(b, 1)
	q, rest := new(big.Int).DivMod(twice, under, new(big.Int))
	if rest.Sign() == 0 && q.Bit(0) == 1 {
		q.Sub(q, big.NewInt(1))
	}
	return q
}

// within cuts a big number to the range from least to most.
func within(v *big.Int, least, most int64) int64 {
	if v.Cmp(big.NewInt(least)) < 0 {
		return least
	}
	if v.Cmp(big.NewInt(most)) > 0 {
		return most
	}
	return v.Int64()
}

func toWide(v *big.Int) int32 { return int32(within(v, math.MinInt32, math.MaxInt32)) }

func product(a, b int64) *big.Int { return new(big.Int).Mul(big.NewInt(a), big.NewInt(b)) }

// longs are numbers of 64 bits, rising: all small ones, those by each power of two and by three halves of it, both ends, and some others.
func longs() []int64 {
	l := []int64{math.MinInt64, math.MinInt64 + 1, math.MaxInt64 - 1, math.MaxInt64}
	for v := int64(-40); v <= 40; v++ {
		l = append(l, v)
	}
	for n := 5; n <= 62; n++ {
		for d := int64(-2); d <= 2; d++ {
			l = append(l, 1<<n+d, -1<<n+d)
			if n <= 61 {
				l = append(l, 3<<n+d, -3<<n+d)
			}
		}
	}
	r := rand.New(rand.NewSource(1))
	for range 300 {
		l = append(l, int64(r.Uint64())>>r.Intn(63))
	}
	slices.Sort(l)
	return slices.Compact(l)
}

// shorts are those of them that are numbers of layer 1, rising.
func shorts() []int32 {
	l := []int32{low, low + 1, top - 1, top}
	for _, v := range longs() {
		if v >= math.MinInt32 && v <= math.MaxInt32 {
			l = append(l, int32(v))
		}
	}
	slices.Sort(l)
	return slices.Compact(l)
}

// P1.1: Wide and Narrow at, within and past both ends.
func TestCut(t *testing.T) {
	for _, c := range []struct {
		v            int64
		wide, narrow int32
	}{
		{0, 0, 0}, {5, 5, 5}, {-5, -5, -5},
		{1<<23 - 1, 1<<23 - 1, 1<<23 - 1}, {1 << 23, 1 << 23, 1 << 23}, {1<<23 + 1, 1<<23 + 1, 1 << 23},
		{-1<<23 + 1, -1<<23 + 1, -1<<23 + 1}, {-1 << 23, -1 << 23, -1 << 23}, {-1<<23 - 1, -1<<23 - 1, -1 << 23},
		{1<<31 - 2, top - 1, 1 << 23}, {1<<31 - 1, top, 1 << 23}, {1 << 31, top, 1 << 23},
		{-1<<31 + 1, low + 1, -1 << 23}, {-1 << 31, low, -1 << 23}, {-1<<31 - 1, low, -1 << 23},
		{1 << 32, top, 1 << 23}, {-1 << 32, low, -1 << 23}, {1<<32 + 7, top, 1 << 23}, {-1<<32 - 7, low, -1 << 23},
		{math.MaxInt64, top, 1 << 23}, {math.MinInt64, low, -1 << 23},
	} {
		if x := Wide(c.v); x != c.wide {
			t.Errorf("Wide(%d) = %d, not %d", c.v, x, c.wide)
		}
		if x := Narrow(c.v); x != c.narrow {
			t.Errorf("Narrow(%d) = %d, not %d", c.v, x, c.narrow)
		}
	}
	for _, v := range longs() {
		if x, want := Wide(v), toWide(big.NewInt(v)); x != want {
			t.Errorf("Wide(%d) = %d, not %d", v, x, want)
		}
		if x, want := Narrow(v), int32(within(big.NewInt(v), -api.Narrow, api.Narrow)); x != want {
			t.Errorf("Narrow(%d) = %d, not %d", v, x, want)
		}
	}
}

// P1.1: Half at halves above and below 0, beside them, and at the ends.
func TestHalf(t *testing.T) {
	for _, c := range []struct {
		v    int64
		n    int
		want int64
	}{
		{3, 1, 2}, {5, 1, 2}, {1, 1, 0}, {-1, 1, 0}, {-3, 1, -2}, {-5, 1, -2}, {-7, 1, -4},
		{5, 2, 1}, {6, 2, 2}, {7, 2, 2}, {9, 2, 2}, {10, 2, 2}, {11, 2, 3},
		{-5, 2, -1}, {-6, 2, -2}, {-7, 2, -2}, {-9, 2, -2}, {-10, 2, -2}, {-11, 2, -3},
		{7, 0, 7}, {-7, 0, -7}, {math.MaxInt64, 0, math.MaxInt64}, {math.MinInt64, 0, math.MinInt64},
		{1<<61 - 1, 62, 0}, {1 << 61, 62, 0}, {1<<61 + 1, 62, 1}, {3 << 61, 62, 2}, {3<<61 - 1, 62, 1},
		{-1<<61 + 1, 62, 0}, {-1 << 61, 62, 0}, {-1<<61 - 1, 62, -1}, {-3 << 61, 62, -2}, {-3<<61 + 1, 62, -1},
		{math.MaxInt64, 62, 2}, {math.MinInt64, 62, -2}, {math.MaxInt64, 1, 1 << 62}, {math.MinInt64, 1, -1 << 62},
	} {
		if q := Half(c.v, c.n); q != c.want {
			t.Errorf("Half(%d, %d) = %d, not %d", c.v, c.n, q, c.want)
		}
	}
	for _, v := range longs() {
		for n := range 63 {
			want := exact(big.NewInt(v), new(big.Int).Lsh(big.NewInt(1), uint(n))).Int64()
			if q := Half(v, n); q != want {
				t.Errorf("Half(%d, %d) = %d, not %d", v, n, q, want)
			}
		}
	}
}

// P1.1: an n that isn't from 0 to 62 is as the nearest one that is.
func TestHalfOtherShifts(t *testing.T) {
	for _, v := range longs() {
		for _, n := range []int{-1, -2, -63, -64, math.MinInt32, math.MinInt} {
			if q := Half(v, n); q != v {
				t.Errorf("Half(%d, %d) = %d", v, n, q)
			}
		}
		want := exact(big.NewInt(v), big.NewInt(1<<62)).Int64()
		for _, n := range []int{63, 64, 65, 99, 128, math.MaxInt32, math.MaxInt} {
			if q := Half(v, n); q != want {
				t.Errorf("Half(%d, %d) = %d, not %d", v, n, q, want)
			}
		}
	}
}

// P1.1: Ratio at halves above and below 0, at the ends, and with wrong divisors.
func TestRatio(t *testing.T) {
	for _, c := range [][3]int64{
		{7, 2, 4}, {5, 2, 2}, {3, 2, 2}, {1, 2, 0}, {-1, 2, 0}, {-3, 2, -2}, {-5, 2, -2}, {-7, 2, -4},
		{10, 3, 3}, {11, 3, 4}, {-10, 3, -3}, {-11, 3, -4}, {9, 6, 2}, {15, 6, 2}, {-9, 6, -2}, {-15, 6, -2},
		{math.MaxInt64, 1, math.MaxInt64}, {math.MinInt64, 1, math.MinInt64}, {math.MaxInt64, 2, 1 << 62},
		{math.MaxInt64, math.MaxInt64, 1}, {math.MinInt64, math.MaxInt64, -1},
		{1<<62 - 1, math.MaxInt64, 0}, {1 << 62, math.MaxInt64, 1}, {-1<<62 + 1, math.MaxInt64, 0}, {-1 << 62, math.MaxInt64, -1},
		{1<<62 - 1, math.MaxInt64 - 1, 0}, {-1<<62 + 1, math.MaxInt64 - 1, 0}, {0, math.MaxInt64, 0},
		{5, 0, 0}, {0, 0, 0}, {-5, 0, 0}, {5, -1, 0}, {-5, -1, 0}, {math.MinInt64, -1, 0}, {math.MaxInt64, math.MinInt64, 0},
	} {
		if q := Ratio(c[0], c[1]); q != c[2] {
			t.Errorf("Ratio(%d, %d) = %d, not %d", c[0], c[1], q, c[2])
		}
	}
	for _, a := range longs() {
		for _, b := range longs() {
			want := int64(0)
			if b > 0 {
				want = exact(big.NewInt(a), big.NewInt(b)).Int64()
			}
			if q := Ratio(a, b); q != want {
				t.Fatalf("Ratio(%d, %d) = %d, not %d", a, b, q, want)
			}
		}
	}
}

// P1.2: what is told where the answer is cut, and beside it.
func TestNumbers(t *testing.T) {
	for i, c := range [][2]int32{
		{Add(3, 4), 7}, {Add(top, 0), top}, {Add(top, 1), top}, {Add(top-1, 1), top}, {Add(top, top), top}, {Add(top, -1), top - 1},
		{Add(low, -1), low}, {Add(low, low), low}, {Add(low+1, -1), low}, {Add(low, top), -1},
		{Sub(3, 4), -1}, {Sub(low, 1), low}, {Sub(top, low), top}, {Sub(low, top), low}, {Sub(0, low), top}, {Sub(-1, low), top}, {Sub(low, low), 0}, {Sub(top, -1), top},
		{Mul(98304, 98304), 147456}, {Mul(1, 32768), 0}, {Mul(3, 32768), 2}, {Mul(5, 32768), 2}, {Mul(-1, 32768), 0}, {Mul(-3, 32768), -2}, {Mul(5, -32768), -2}, {Mul(-3, -32768), 2},
		{Mul(top, top), top}, {Mul(low, top), low}, {Mul(top, low), low}, {Mul(low, low), top}, {Mul(low, -65536), top}, {Mul(top, -65536), low + 1}, {Mul(low, 65537), low}, {Mul(1<<23, 1<<24), top}, {Mul(-1<<23, 1<<24), low},
		{Div(65536, 131072), 32768}, {Div(65536, -196608), -21845}, {Div(1, 131072), 0}, {Div(3, 131072), 2}, {Div(5, 131072), 2}, {Div(-1, 131072), 0}, {Div(-3, 131072), -2}, {Div(3, -131072), -2}, {Div(-5, -131072), 2},
		{Div(top, 1), top}, {Div(low, 1), low}, {Div(low, -1), top}, {Div(top, -1), low}, {Div(low, -65536), top}, {Div(top, -65536), low + 1}, {Div(low, low), 65536}, {Div(1, low), 0}, {Div(32768, 1), top}, {Div(-32768, 1), low}, {Div(32767, 1), 32767 << 16},
		{Div(1, 0), top}, {Div(top, 0), top}, {Div(-1, 0), low}, {Div(low, 0), low}, {Div(0, 0), 0}, {Div(0, -1), 0},
		{Of(0), 0}, {Of(3), 196608}, {Of(-3), -196608}, {Of(32767), 32767 << 16}, {Of(32768), top}, {Of(-32767), -32767 << 16}, {Of(-32768), low}, {Of(-32769), low},
		{Of(math.MaxInt32), top}, {Of(math.MinInt32), low}, {Of(math.MaxInt), top}, {Of(math.MinInt), low},
	} {
		if c[0] != c[1] {
			t.Errorf("%d: %d, not %d", i, c[0], c[1])
		}
	}
}

// P1.2: each of two numbers' calls, held against big numbers.
func TestNumbersExact(t *testing.T) {
	one := big.NewInt(api.One)
	for _, a := range shorts() {
		for _, b := range shorts() {
			x, y := int64(a), int64(b)
			if v, want := Add(a, b), toWide(big.NewInt(x+y)); v != want {
				t.Fatalf("Add(%d, %d) = %d, not %d", a, b, v, want)
			}
			if v, want := Sub(a, b), toWide(big.NewInt(x-y)); v != want {
				t.Fatalf("Sub(%d, %d) = %d, not %d", a, b, v, want)
			}
			if v, want := Mul(a, b), toWide(exact(product(x, y), one)); v != want {
				t.Fatalf("Mul(%d, %d) = %d, not %d", a, b, v, want)
			}
			if b == 0 {
				continue
			}
			over, under := product(x, api.One), big.NewInt(y)
			if b < 0 {
				over.Neg(over)
				under.Neg(under)
			}
			if v, want := Div(a, b), toWide(exact(over, under)); v != want {
				t.Fatalf("Div(%d, %d) = %d, not %d", a, b, v, want)
			}
		}
	}
}

// P1.2: Of at any whole number, those whose product goes round 64 bits among them.
func TestOf(t *testing.T) {
	for _, v := range longs() {
		if x, want := Of(int(v)), toWide(product(v, api.One)); x != want {
			t.Errorf("Of(%d) = %d, not %d", v, x, want)
		}
	}
}

// P1.3: rounding never falls when what is rounded rises.
func TestRises(t *testing.T) {
	l := longs()
	for i, v := range l[1:] {
		for n := range 63 {
			if Half(l[i], n) > Half(v, n) {
				t.Fatalf("Half falls from %d to %d by %d", l[i], v, n)
			}
		}
		for _, b := range l {
			if Ratio(l[i], b) > Ratio(v, b) {
				t.Fatalf("Ratio falls from %d to %d by %d", l[i], v, b)
			}
		}
	}
}

// P1.3: at each whole number near 0, where a step from one answer to the next would be seen.
func TestRisesByOne(t *testing.T) {
	for b := int64(1); b <= 20; b++ {
		for a := int64(-100); a < 100; a++ {
			if d := Ratio(a+1, b) - Ratio(a, b); d < 0 || d > 1 {
				t.Errorf("Ratio from %d to %d by %d: %d more", a, a+1, b, d)
			}
		}
	}
}

// P1.3: of the opposite the opposite is told.
func TestOdd(t *testing.T) {
	l := longs()
	for _, v := range l {
		// What has no opposite of 64 bits.
		if v == math.MinInt64 {
			continue
		}
		for n := range 63 {
			if Half(-v, n) != -Half(v, n) {
				t.Fatalf("Half(%d, %d) isn't odd", v, n)
			}
		}
		for _, b := range l {
			if Ratio(-v, b) != -Ratio(v, b) {
				t.Fatalf("Ratio(%d, %d) isn't odd", v, b)
			}
		}
	}
}

// P1.3: Mul and Div by One are the number itself.
func TestOne(t *testing.T) {
	for _, a := range shorts() {
		if v := Mul(a, api.One); v != a {
			t.Errorf("Mul(%d, One) = %d", a, v)
		}
		if v := Mul(api.One, a); v != a {
			t.Errorf("Mul(One, %d) = %d", a, v)
		}
		if v := Div(a, api.One); v != a {
			t.Errorf("Div(%d, One) = %d", a, v)
		}
	}
}
