package pack

import (
	"math"
	"math/big"
	"math/rand"
	"slices"
	"testing"

	"credenza/api"
)

const (
	full = api.MaxCodes
	ones = uint64(math.MaxUint64)
	far  = math.MaxInt
	deep = math.MinInt
)

// wrongBits are numbers of bits that codes may not have; some are right ones but for a bit, a sign or a turn.
var wrongBits = []int{0, 1, 3, 5, 6, 7, 9, 10, 12, 16, 32, 64, -1, -2, -4, -8, 1<<32 + 2, 1<<32 + 4, 1<<32 + 8, 1 << 40, deep + 2, deep, far}

var rightBits = []int{2, 4, 8}

// of makes a list of n times x.
func of[T any](n int, x T) []T { return slices.Repeat([]T{x}, n) }

// with makes a list of n times x, but for y at a place.
func with[T any](n int, x T, place int, y T) []T {
	l := of(n, x)
	l[place] = y
	return l
}

// some makes n codes of b bits.
func some(r *rand.Rand, n, b int) []int {
	l := make([]int, n)
	for i := range l {
		l[i] = r.Intn(1 << b)
	}
	return l
}

// P5.1: 2, 4 and 8, and nothing else.
func TestBits(t *testing.T) {
	for b := -300; b <= 300; b++ {
		if Bits(b) != slices.Contains(rightBits, b) {
			t.Errorf("Bits(%d): %v", b, Bits(b))
		}
	}
	for _, b := range wrongBits {
		if Bits(b) {
			t.Errorf("Bits(%d)", b)
		}
	}
}

// P5.1: as few words as have room.
func TestWords(t *testing.T) {
	for _, c := range []struct{ n, b, want int }{
		{0, 2, 0}, {1, 2, 1}, {31, 2, 1}, {32, 2, 1}, {33, 2, 2}, {64, 2, 2}, {65, 2, 3}, {255, 2, 8}, {256, 2, 8}, {257, 2, 0},
		{0, 4, 0}, {1, 4, 1}, {15, 4, 1}, {16, 4, 1}, {17, 4, 2}, {32, 4, 2}, {33, 4, 3}, {255, 4, 16}, {256, 4, 16}, {257, 4, 0},
		{0, 8, 0}, {1, 8, 1}, {7, 8, 1}, {8, 8, 1}, {9, 8, 2}, {16, 8, 2}, {17, 8, 3}, {248, 8, 31}, {249, 8, 32}, {256, 8, 32}, {257, 8, 0},
		{-1, 2, 0}, {-1, 4, 0}, {-1, 8, 0}, {-32, 2, 0}, {-64, 2, 0}, {-256, 8, 0}, {deep, 8, 0}, {far, 8, 0}, {far, 2, 0}, {1 << 61, 8, 0}, {1<<61 + 8, 8, 0}, {1<<32 + 8, 8, 0}, {1 << 62, 4, 0},
	} {
		if w := Words(c.n, c.b); w != c.want {
			t.Errorf("Words(%d, %d): %d, not %d", c.n, c.b, w, c.want)
		}
	}
	for _, b := range rightBits {
		for n := range full + 1 {
			if w := Words(n, b); w*64 < n*b || n*b <= (w-1)*64 {
				t.Errorf("Words(%d, %d): %d", n, b, w)
			}
		}
	}
	for _, b := range wrongBits {
		for _, n := range []int{0, 1, 8, 32, 33, full, full + 1, -1} {
			if w := Words(n, b); w != 0 {
				t.Errorf("Words(%d, %d): %d", n, b, w)
			}
		}
	}
}

// P5.1, P5.2: the chapter's example, the least and the greatest codes, and codes whose bits end a word, and one more.
func TestPackUnpack(t *testing.T) {
	for i, c := range []struct {
		codes []int
		b     int
		words []uint64
	}{
		{[]int{1, 2, 3}, 2, []uint64{57}}, {[]int{1, 2, 3}, 4, []uint64{0x321}}, {[]int{1, 2, 3}, 8, []uint64{0x30201}},
		{nil, 2, nil}, {nil, 4, nil}, {nil, 8, nil}, {[]int{}, 8, nil}, {of(9, 3)[:0], 2, nil},
		{[]int{0}, 2, []uint64{0}}, {[]int{0}, 4, []uint64{0}}, {[]int{0}, 8, []uint64{0}}, {[]int{3}, 2, []uint64{3}}, {[]int{15}, 4, []uint64{15}}, {[]int{255}, 8, []uint64{255}}, {[]int{0, 3}, 2, []uint64{12}}, {[]int{0, 15}, 4, []uint64{240}}, {[]int{0, 255}, 8, []uint64{0xff00}},
		{of(31, 3), 2, []uint64{ones >> 2}}, {of(32, 3), 2, []uint64{ones}}, {of(33, 3), 2, []uint64{ones, 3}}, {with(32, 0, 31, 2), 2, []uint64{1 << 63}}, {with(32, 0, 31, 1), 2, []uint64{1 << 62}}, {with(33, 0, 32, 2), 2, []uint64{0, 2}}, {of(33, 0), 2, []uint64{0, 0}},
		{of(15, 15), 4, []uint64{ones >> 4}}, {of(16, 15), 4, []uint64{ones}}, {of(17, 15), 4, []uint64{ones, 15}}, {with(16, 0, 15, 8), 4, []uint64{1 << 63}}, {with(17, 0, 16, 7), 4, []uint64{0, 7}}, {of(17, 0), 4, []uint64{0, 0}},
		{of(7, 255), 8, []uint64{ones >> 8}}, {of(8, 255), 8, []uint64{ones}}, {of(9, 255), 8, []uint64{ones, 255}}, {with(8, 0, 7, 128), 8, []uint64{1 << 63}}, {with(9, 0, 8, 200), 8, []uint64{0, 200}}, {of(9, 0), 8, []uint64{0, 0}},
		{[]int{15, 14, 13, 12, 11, 10, 9, 8, 7, 6, 5, 4, 3, 2, 1, 0, 5}, 4, []uint64{0x0123456789abcdef, 5}}, {[]int{0xef, 0xcd, 0xab, 0x89, 0x67, 0x45, 0x23, 0x01, 0xfe}, 8, []uint64{0x0123456789abcdef, 0xfe}},
		{of(full, 3), 2, of(8, ones)}, {of(full, 15), 4, of(16, ones)}, {of(full, 255), 8, of(32, ones)}, {of(full, 0), 2, of(8, uint64(0))}, {with(full, 0, full-1, 255), 8, with(32, uint64(0), 31, 255<<56)}, {with(full, 0, full-1, 3), 2, with(8, uint64(0), 7, 3<<62)}, {with(full, 0, full-1, 15), 4, with(16, uint64(0), 15, 15<<60)}, {of(full-1, 255), 8, with(32, ones, 31, ones>>8)}, {of(full, 1), 2, of(8, uint64(0x5555555555555555))},
	} {
		if w, e := Pack(c.codes, c.b); e != api.OK || !slices.Equal(w, c.words) {
			t.Errorf("Pack %d: %x, %d, not %x", i, w, e, c.words)
		}
		if l, e := Unpack(c.words, len(c.codes), c.b); e != api.OK || !slices.Equal(l, c.codes) {
			t.Errorf("Unpack %d: %v, %d, not %v", i, l, e, c.codes)
		}
		for k, code := range c.codes {
			if x := Lane(c.words, k, c.b); x != code {
				t.Errorf("Lane %d at %d: %d, not %d", i, k, x, code)
			}
		}
		if n := Words(len(c.codes), c.b); n != len(c.words) {
			t.Errorf("Words %d: %d", i, n)
		}
	}
}

// P5.1: what isn't packed, and which error is told where several hold.
func TestPackRefused(t *testing.T) {
	for i, c := range []struct {
		codes []int
		b     int
		e     api.Errno
	}{
		{[]int{4}, 2, api.ErrRange}, {[]int{16}, 4, api.ErrRange}, {[]int{256}, 8, api.ErrRange}, {[]int{-1}, 2, api.ErrRange}, {[]int{-1}, 4, api.ErrRange}, {[]int{-1}, 8, api.ErrRange}, {[]int{3, 4}, 2, api.ErrRange}, {[]int{16, 0}, 4, api.ErrRange}, {[]int{0, 255, 256, 0}, 8, api.ErrRange}, {[]int{255}, 4, api.ErrRange}, {[]int{15}, 2, api.ErrRange},
		{[]int{far}, 8, api.ErrRange}, {[]int{deep}, 8, api.ErrRange}, {[]int{1 << 32}, 8, api.ErrRange}, {[]int{1<<32 + 1}, 2, api.ErrRange}, {[]int{1 << 63 >> 1}, 4, api.ErrRange}, {[]int{-4}, 2, api.ErrRange}, {[]int{-256}, 8, api.ErrRange}, {[]int{deep + 1}, 2, api.ErrRange},
		{with(full, 3, 0, 4), 2, api.ErrRange}, {with(full, 3, full-1, 4), 2, api.ErrRange}, {with(full, 15, full-1, 16), 4, api.ErrRange}, {with(full, 255, full-1, 256), 8, api.ErrRange}, {with(full, 255, full-1, -1), 8, api.ErrRange}, {with(full, 0, full/2, -1), 4, api.ErrRange},
		{of(full+1, 0), 2, api.ErrMany}, {of(full+1, 0), 4, api.ErrMany}, {of(full+1, 0), 8, api.ErrMany}, {of(5*full, 1), 2, api.ErrMany}, {of(1<<16, 0), 8, api.ErrMany}, {of(2*full, 0), 4, api.ErrMany},
		{of(full+1, -1), 2, api.ErrMany}, {of(full+1, 16), 4, api.ErrMany}, {with(full+1, 0, full, 256), 8, api.ErrMany}, {with(full+1, 0, 0, far), 8, api.ErrMany},
	} {
		if w, e := Pack(c.codes, c.b); e != c.e || len(w) != 0 {
			t.Errorf("Pack %d: %x, %d, not %d", i, w, e, c.e)
		}
	}
	for _, b := range wrongBits {
		for i, codes := range [][]int{nil, {0}, {1, 0, 1}, {-1}, {far}, of(full, 0), of(full+1, 0), of(full+1, -1)} {
			if w, e := Pack(codes, b); e != api.ErrBits || len(w) != 0 {
				t.Errorf("Pack of codes %d, of %d bits: %x, %d", i, b, w, e)
			}
		}
	}
}

// P5.2: what isn't unpacked, and which error is told where several hold.
func TestUnpackRefused(t *testing.T) {
	zero := uint64(0)
	for i, c := range []struct {
		words []uint64
		n, b  int
		e     api.Errno
	}{
		{nil, -1, 2, api.ErrMany}, {nil, -1, 4, api.ErrMany}, {nil, -1, 8, api.ErrMany}, {nil, full + 1, 2, api.ErrMany}, {nil, full + 1, 4, api.ErrMany}, {nil, full + 1, 8, api.ErrMany}, {nil, deep, 8, api.ErrMany}, {nil, far, 8, api.ErrMany}, {nil, 1 << 61, 8, api.ErrMany}, {nil, 1 << 62, 4, api.ErrMany}, {nil, -256, 2, api.ErrMany}, {nil, 1 << 32, 2, api.ErrMany}, {of(1, zero), 1<<32 + 1, 2, api.ErrMany},
		// The words are as many as so many codes would need, or they are wrong too.
		{of(9, zero), full + 1, 2, api.ErrMany}, {of(17, zero), full + 1, 4, api.ErrMany}, {of(33, zero), full + 1, 8, api.ErrMany}, {of(1, ones), -1, 8, api.ErrMany}, {of(40, ones), -40, 8, api.ErrMany}, {of(40, ones), 400, 8, api.ErrMany}, {of(33, ones), full + 1, 8, api.ErrMany},
		{nil, 1, 2, api.ErrShape}, {nil, 1, 4, api.ErrShape}, {nil, 1, 8, api.ErrShape}, {[]uint64{}, 32, 2, api.ErrShape}, {nil, full, 8, api.ErrShape},
		{of(1, zero), 0, 2, api.ErrShape}, {of(1, zero), 0, 4, api.ErrShape}, {of(1, zero), 0, 8, api.ErrShape},
		{of(2, zero), 32, 2, api.ErrShape}, {of(1, zero), 33, 2, api.ErrShape}, {of(3, zero), 33, 2, api.ErrShape}, {of(2, zero), 16, 4, api.ErrShape}, {of(1, zero), 17, 4, api.ErrShape}, {of(3, zero), 17, 4, api.ErrShape}, {of(2, zero), 8, 8, api.ErrShape}, {of(1, zero), 9, 8, api.ErrShape}, {of(3, zero), 9, 8, api.ErrShape},
		{of(7, zero), full, 2, api.ErrShape}, {of(9, zero), full, 2, api.ErrShape}, {of(15, zero), full, 4, api.ErrShape}, {of(17, zero), full, 4, api.ErrShape}, {of(31, zero), full, 8, api.ErrShape}, {of(33, zero), full, 8, api.ErrShape}, {of(1000, zero), full, 8, api.ErrShape}, {of(1000, zero), 3, 2, api.ErrShape},
		{of(2, ones), 3, 2, api.ErrShape}, {of(1, ones), 0, 8, api.ErrShape}, {of(1, ones), 33, 2, api.ErrShape}, {of(3, ones), 9, 8, api.ErrShape},
		{[]uint64{64}, 3, 2, api.ErrForm}, {[]uint64{57 | 1<<63}, 3, 2, api.ErrForm}, {[]uint64{57 | 1<<30}, 3, 2, api.ErrForm}, {[]uint64{4}, 1, 2, api.ErrForm}, {[]uint64{16}, 1, 4, api.ErrForm}, {[]uint64{256}, 1, 8, api.ErrForm}, {[]uint64{1 << 62}, 31, 2, api.ErrForm}, {[]uint64{1 << 63}, 31, 2, api.ErrForm}, {[]uint64{1 << 60}, 15, 4, api.ErrForm}, {[]uint64{1 << 63}, 15, 4, api.ErrForm}, {[]uint64{1 << 56}, 7, 8, api.ErrForm}, {[]uint64{1 << 63}, 7, 8, api.ErrForm}, {[]uint64{ones}, 31, 2, api.ErrForm},
		{[]uint64{0, 4}, 33, 2, api.ErrForm}, {[]uint64{0, 1 << 63}, 33, 2, api.ErrForm}, {[]uint64{ones, 16}, 17, 4, api.ErrForm}, {[]uint64{ones, 256}, 9, 8, api.ErrForm}, {with(8, zero, 7, 1<<62), full - 1, 2, api.ErrForm}, {with(16, zero, 15, 1<<60), full - 1, 4, api.ErrForm}, {with(32, zero, 31, 1<<56), full - 1, 8, api.ErrForm},
	} {
		if l, e := Unpack(c.words, c.n, c.b); e != c.e || len(l) != 0 {
			t.Errorf("Unpack %d: %v, %d, not %d", i, l, e, c.e)
		}
	}
	for _, b := range wrongBits {
		for _, n := range []int{0, 1, 3, 8, full, full + 1, -1, far, deep} {
			for i, words := range [][]uint64{nil, {0}, {ones}, of(32, ones)} {
				if l, e := Unpack(words, n, b); e != api.ErrBits || len(l) != 0 {
					t.Errorf("Unpack of words %d, %d codes of %d bits: %v, %d", i, n, b, l, e)
				}
			}
		}
	}
}

// P5.2: each bit of the last word, whatever the number of codes: it is a code's, or it is refused.
func TestUnpackEachBit(t *testing.T) {
	for _, b := range rightBits {
		for n := 1; n <= full; n++ {
			words := make([]uint64, Words(n, b))
			last := len(words) - 1
			for bit := range 64 {
				words[last] = 1 << bit
				place := last*64 + bit
				want, e := with(n+64, 0, place/b, 1<<(place%b))[:n], api.OK
				if place >= n*b {
					want, e = nil, api.ErrForm
				}
				if l, f := Unpack(words, n, b); f != e || !slices.Equal(l, want) {
					t.Fatalf("bit %d of the last word of %d codes of %d bits: %v, %d, not %v, %d", bit, n, b, l, f, want, e)
				}
			}
		}
	}
}

// P5.2: lanes at both ends and past them, and lanes that no list of codes has.
func TestLane(t *testing.T) {
	for i, c := range []struct {
		words      []uint64
		lane, b, x int
	}{
		{[]uint64{57}, 0, 2, 1}, {[]uint64{57}, 1, 2, 2}, {[]uint64{57}, 2, 2, 3}, {[]uint64{57}, 3, 2, 0}, {[]uint64{57}, 31, 2, 0}, {[]uint64{57}, 32, 2, 0}, {[]uint64{57}, 0, 4, 9}, {[]uint64{57}, 1, 4, 3}, {[]uint64{57}, 0, 8, 57},
		{[]uint64{ones}, -1, 2, 0}, {[]uint64{ones}, -1, 4, 0}, {[]uint64{ones}, -1, 8, 0}, {[]uint64{ones, ones}, -32, 2, 0}, {[]uint64{ones, ones}, -8, 8, 0}, {[]uint64{ones}, deep, 8, 0}, {[]uint64{ones}, deep, 2, 0}, {[]uint64{ones}, deep + 1, 4, 0},
		{[]uint64{ones}, 31, 2, 3}, {[]uint64{ones}, 32, 2, 0}, {[]uint64{ones}, 15, 4, 15}, {[]uint64{ones}, 16, 4, 0}, {[]uint64{ones}, 7, 8, 255}, {[]uint64{ones}, 8, 8, 0}, {[]uint64{ones, ones}, 63, 2, 3}, {[]uint64{ones, ones}, 64, 2, 0}, {[]uint64{ones, ones}, 31, 4, 15}, {[]uint64{ones, ones}, 32, 4, 0}, {[]uint64{ones, ones}, 15, 8, 255}, {[]uint64{ones, ones}, 16, 8, 0}, {of(32, ones), full - 1, 8, 255}, {of(32, ones), full, 8, 0}, {of(8, ones), full - 1, 2, 3}, {of(8, ones), full, 2, 0}, {of(16, ones), full, 4, 0},
		{[]uint64{1 << 63}, 31, 2, 2}, {[]uint64{1 << 63}, 15, 4, 8}, {[]uint64{1 << 63}, 7, 8, 128}, {[]uint64{1, 2, 3}, 8, 8, 2}, {[]uint64{1, 2, 3}, 32, 2, 2}, {[]uint64{1, 2, 3}, 32, 4, 3}, {[]uint64{1, 2, 3}, 16, 8, 3}, {[]uint64{1, 2, 3}, 24, 8, 0},
		{nil, 0, 2, 0}, {nil, 0, 4, 0}, {nil, 0, 8, 0}, {[]uint64{}, 0, 8, 0}, {nil, -1, 8, 0}, {of(3, ones)[:0], 0, 8, 0}, {of(3, ones)[:1], 8, 8, 0},
		// The lane by its bits would go round.
		{[]uint64{ones}, far, 2, 0}, {[]uint64{ones}, far, 8, 0}, {[]uint64{ones}, 1 << 61, 8, 0}, {[]uint64{ones}, 1 << 62, 4, 0}, {[]uint64{ones}, 1<<61 + 1, 8, 0}, {[]uint64{ones}, 1 << 32, 8, 0}, {[]uint64{ones}, 1 << 31, 2, 0},
		// Words of more codes than a list may have: their bits are there.
		{of(33, ones), full, 8, 255}, {of(9, ones), full, 2, 3}, {of(40, uint64(7)), 312, 8, 7},
	} {
		if x := Lane(c.words, c.lane, c.b); x != c.x {
			t.Errorf("Lane %d: %d, not %d", i, x, c.x)
		}
	}
	for _, b := range wrongBits {
		for _, i := range []int{0, 1, 7, -1, far, deep} {
			if x := Lane([]uint64{ones, ones}, i, b); x != 0 {
				t.Errorf("Lane(%d) of %d bits: %d", i, b, x)
			}
		}
	}
}

// number is all words as one number, the first word lowest.
func number(words []uint64) *big.Int {
	x := new(big.Int)
	for _, w := range slices.Backward(words) {
		x.Or(x.Lsh(x, 64), new(big.Int).SetUint64(w))
	}
	return x
}

// P5.1, P5.2, P5.3: for each number of codes and of bits, the words held against one big number, and there and back.
func TestThereAndBack(t *testing.T) {
	r := rand.New(rand.NewSource(11))
	for _, b := range rightBits {
		for n := range full + 1 {
			codes := some(r, n, b)
			want := new(big.Int)
			for i, code := range codes {
				x := big.NewInt(int64(code))
				want.Or(want, x.Lsh(x, uint(i*b)))
			}
			words, e := Pack(codes, b)
			if e != api.OK || len(words) != Words(n, b) || number(words).Cmp(want) != 0 {
				t.Fatalf("Pack(%v, %d): %x, %d, not %x", codes, b, words, e, want)
			}
			if back, e := Unpack(words, n, b); e != api.OK || !slices.Equal(back, codes) {
				t.Fatalf("Unpack(%x, %d, %d): %v, %d, not %v", words, n, b, back, e, codes)
			}
			for i, code := range codes {
				if x := Lane(words, i, b); x != code {
					t.Fatalf("Lane(%x, %d, %d): %d, not %d", words, i, b, x, code)
				}
			}
		}
	}
}

// P5.3: any words are refused, or they are unpacked into codes that are packed into just these words.
func TestOneListOrNone(t *testing.T) {
	r := rand.New(rand.NewSource(12))
	some, none := 0, 0
	for range 30000 {
		b := rightBits[r.Intn(3)]
		n := r.Intn(60) - 2
		words := make([]uint64, max(0, Words(n, b)+r.Intn(8)/7-r.Intn(8)/7))
		for i := range words {
			words[i] = r.Uint64()
		}
		if len(words) > 0 {
			words[len(words)-1] >>= r.Intn(64)
		}
		codes, e := Unpack(words, n, b)
		if e != api.OK {
			none++
			continue
		}
		some++
		if back, f := Pack(codes, b); f != api.OK || len(codes) != n || !slices.Equal(back, words) {
			t.Fatalf("Unpack(%x, %d, %d): %v, that is packed into %x, %d", words, n, b, codes, back, f)
		}
	}
	if some < 1000 || none < 1000 {
		t.Errorf("%d taken, %d refused", some, none)
	}
}

// P5.3: two lists of codes that differ in one place are never the same words.
func TestEachListItsWords(t *testing.T) {
	for _, b := range rightBits {
		n := 128/b + 3
		seen := map[string]int{}
		for i := range n {
			for code := range 1 << b {
				words, e := Pack(with(n, 0, i, code), b)
				if e != api.OK {
					t.Fatalf("Pack: %d", e)
				}
				seen[number(words).String()]++
			}
		}
		if len(seen) != n*(1<<b-1)+1 || seen["0"] != n {
			t.Errorf("%d bits: %d lists of words", b, len(seen))
		}
	}
}

// roomy makes a list with spare room behind it, and tells both.
func roomy[T any](l []T, spare T) (list, whole []T) {
	whole = append(slices.Clone(l), of(4, spare)...)
	return whole[:len(l)], whole
}

// spoil writes over all that an answer has, its spare room too.
func spoil[T any](l []T, x T) {
	l = l[:cap(l)]
	for i := range l {
		l[i] = x
	}
}

// checkMemory asks of a call that it leaves what it is handed, its spare room too, and that each answer is of its own.
func checkMemory[A, B int | uint64](t *testing.T, name string, arg []A, call func([]A) []B) {
	t.Helper()
	list, whole := roomy(arg, 111)
	kept := slices.Clone(whole)
	first, other := call(list), call(list)
	same := slices.Clone(other)
	spoil(first, 77)
	if !slices.Equal(whole, kept) || !slices.Equal(other, same) {
		t.Errorf("%s changed or shared memory", name)
	}
	clear(whole)
	if !slices.Equal(other, same) {
		t.Errorf("%s kept what it was handed", name)
	}
}

// DOC.md's rule of memory, where a call answers and where it refuses.
func TestMemory(t *testing.T) {
	for _, b := range []int{2, 4, 8, 3} {
		for _, codes := range [][]int{nil, {1, 2, 3}, {3, 4}, {-1}, of(32, 3), of(full, 1), of(full+1, 1)} {
			checkMemory(t, "Pack", codes, func(l []int) []uint64 { w, _ := Pack(l, b); return w })
		}
		for _, words := range [][]uint64{nil, {57}, {ones}, {ones, 3}, of(32, ones)} {
			for _, n := range []int{-1, 0, 3, 8, 9, 16, 32, 33, full} {
				checkMemory(t, "Unpack", words, func(l []uint64) []int { c, _ := Unpack(l, n, b); return c })
				checkMemory(t, "Lane", words, func(l []uint64) []int { return []int{Lane(l, n, b)} })
			}
		}
	}
}

// The chapter's example: 1 + 8 + 48 = 57.
func TestExample(t *testing.T) {
	words, e := Pack([]int{1, 2, 3}, 2)
	if e != api.OK || !slices.Equal(words, []uint64{1 + 8 + 48}) {
		t.Errorf("Pack: %v, %d", words, e)
	}
	codes, e := Unpack([]uint64{57}, 3, 2)
	if e != api.OK || !slices.Equal(codes, []int{1, 2, 3}) {
		t.Errorf("Unpack: %v, %d", codes, e)
	}
}
