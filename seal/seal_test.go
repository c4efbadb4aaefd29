package seal

import (
	"bytes"
	"hash/fnv"
	"math"
	"math/big"
	"math/rand"
	"slices"
	"testing"

	"credenza/api"
)

const (
	ones = uint64(math.MaxUint64)
	far  = math.MaxInt
	deep = math.MinInt
)

// some makes n bytes, with 0 and 255 often among them.
func some(r *rand.Rand, n int) []byte {
	l := make([]byte, n)
	for i := range l {
		switch r.Intn(4) {
		case 0:
			l[i] = 0
		case 1:
			l[i] = 255
		default:
			l[i] = byte(r.Intn(256))
		}
	}
	return l
}

// of makes n times a byte.
func of(n int, x byte) []byte { return bytes.Repeat([]byte{x}, n) }

// texts are bytes to be sealed: none, one, many, of 0 and of 255.
func texts() [][]byte {
	r := rand.New(rand.NewSource(1))
	l := [][]byte{nil, {}, []byte("xyz")[:0], {0}, {1}, {127}, {128}, {255}, {0, 0}, {255, 255}, {0, 255}, {255, 0}, []byte("a"), []byte("foobar"), of(3, 0), of(4, 0), of(4, 255), of(5, 0), of(1000, 0), of(1000, 255)}
	for n := range 40 {
		l = append(l, some(r, n))
	}
	return append(l, some(r, 5000))
}

// P6.1: sums that are known, and the chapter's example.
func TestSum(t *testing.T) {
	for s, want := range map[string]uint32{
		"": 0x811c9dc5, "a": 0xe40c292c, "b": 0xe70c2de5, "c": 0xe60c2c52, "foobar": 0xbf9cf968, "\x00": 0x050c5d1f, "\xff": 0x7a0b824e,
	} {
		if h := Sum([]byte(s)); h != want {
			t.Errorf("Sum(%x): %x, not %x", s, h, want)
		}
	}
	if Sum(nil) != 2166136261 || Sum([]byte{}) != 2166136261 || Sum([]byte("abc")[:0]) != 2166136261 {
		t.Errorf("Sum of none: %d", Sum(nil))
	}
}

// plainSum is the sum as the chapter says, in numbers of any size.
func plainSum(b []byte) uint32 {
	sum, round := big.NewInt(2166136261), big.NewInt(1<<32)
	for _, x := range b {
		sum.Xor(sum, big.NewInt(int64(x)))
		sum.Mul(sum, big.NewInt(16777619))
		sum.Mod(sum, round)
	}
	return uint32(sum.Uint64())
}

// P6.1: sums held against big numbers, and against the library's.
func TestSumPlain(t *testing.T) {
	for _, b := range texts() {
		h := fnv.New32a()
		h.Write(b)
		if Sum(b) != plainSum(b) || Sum(b) != h.Sum32() {
			t.Errorf("Sum(%x): %x, not %x", b, Sum(b), plainSum(b))
		}
	}
	for x := range 256 {
		for y := range 256 {
			b := []byte{byte(x), byte(y)}
			if Sum(b) != plainSum(b) {
				t.Fatalf("Sum(%x): %x, not %x", b, Sum(b), plainSum(b))
			}
		}
	}
}

// P6.1: bytes of which one is another one have another sum, whichever it is.
func TestSumOfAnotherByte(t *testing.T) {
	for _, b := range texts()[:40] {
		for i := range min(len(b), 30) {
			sums := map[uint32]int{}
			for x := range 256 {
				c := slices.Clone(b)
				c[i] = byte(x)
				sums[Sum(c)]++
			}
			if len(sums) != 256 {
				t.Errorf("%x at %d: %d sums of 256", b, i, len(sums))
			}
		}
	}
}

// P6.1: what is closed is the bytes and their sum, the highest byte first, and is opened again.
func TestCloseOpen(t *testing.T) {
	for _, b := range texts() {
		c := Close(b)
		sum := plainSum(b)
		want := append(slices.Clone(b), byte(sum>>24), byte(sum>>16), byte(sum>>8), byte(sum))
		if !bytes.Equal(c, want) {
			t.Errorf("Close(%x): %x, not %x", b, c, want)
		}
		if o, e := Open(want); e != api.OK || !bytes.Equal(o, b) {
			t.Errorf("Open(%x): %x, %d", want, o, e)
		}
		twice := Close(c)
		if o, e := Open(twice); e != api.OK || !bytes.Equal(o, c) {
			t.Errorf("Open(%x): %x, %d", twice, o, e)
		}
	}
}

// P6.1: fewer than four bytes, none among them, are short, and just four are not.
func TestOpenShort(t *testing.T) {
	none := []byte{0x81, 0x1c, 0x9d, 0xc5}
	for _, b := range [][]byte{nil, {}, none[:0], none[:1], none[:2], none[:3], none[1:], {0}, {255}, of(3, 0), of(3, 255), []byte("abc")} {
		if o, e := Open(b); e != api.ErrShort || len(o) != 0 {
			t.Errorf("Open(%x): %x, %d", b, o, e)
		}
	}
	if o, e := Open(none); e != api.OK || len(o) != 0 {
		t.Errorf("Open(%x): %x, %d", none, o, e)
	}
	for _, b := range [][]byte{of(4, 0), of(4, 255), {0xc5, 0x9d, 0x1c, 0x81}, {0x81, 0x1c, 0x9d, 0xc4}, {0x80, 0x1c, 0x9d, 0xc5}, []byte("abcd")} {
		if o, e := Open(b); e != api.ErrSeal || len(o) != 0 {
			t.Errorf("Open(%x): %x, %d", b, o, e)
		}
	}
}

// P6.1: sealed bytes of which one is another one, of the sum or ahead of it, and sealed bytes of which some lack or are too many.
func TestOpenAnother(t *testing.T) {
	for _, b := range texts() {
		c := Close(b)
		for k := range min(len(c), 24) {
			i := len(c) - 1 - k
			for x := range 256 {
				d := slices.Clone(c)
				d[i] = byte(x)
				o, e := Open(d)
				if d[i] == c[i] {
					if e != api.OK || !bytes.Equal(o, b) {
						t.Fatalf("Open(%x): %x, %d", d, o, e)
					}
				} else if e != api.ErrSeal || len(o) != 0 {
					t.Fatalf("Open(%x), with another byte at %d: %x, %d", d, i, o, e)
				}
			}
		}
	}
	c := Close([]byte("foobar"))
	low := slices.Clone(c)
	slices.Reverse(low[6:])
	for _, d := range [][]byte{c[1:], c[:len(c)-1], append(slices.Clone(c), 0), append([]byte{0}, c...), low, append(slices.Clone(c[6:]), c[:6]...), append(slices.Clone(c), c[6:]...)} {
		if o, e := Open(d); e != api.ErrSeal || len(o) != 0 {
			t.Errorf("Open(%x): %x, %d", d, o, e)
		}
	}
}

// P6.1: any bytes are refused, or they are those that what is ahead is closed to.
func TestOpenAny(t *testing.T) {
	r := rand.New(rand.NewSource(2))
	for range 20000 {
		b := some(r, r.Intn(9))
		if r.Intn(2) == 0 {
			b = Close(b)
		}
		o, e := Open(b)
		want := api.ErrSeal
		if len(b) < 4 {
			want = api.ErrShort
		} else if bytes.Equal(Close(b[:len(b)-4]), b) {
			want = api.OK
		}
		if e != want || e != api.OK && len(o) != 0 || e == api.OK && !bytes.Equal(o, b[:len(b)-4]) {
			t.Fatalf("Open(%x): %x, %d, not %d", b, o, e, want)
		}
	}
}

// P6.2: numbers behind bytes: n of 0 to 8, below and past, highest bytes that aren't written, and numbers of all 64 bits.
func TestPut(t *testing.T) {
	for i, c := range []struct {
		b    string
		v    uint64
		n    int
		want string
	}{
		{"", 0, 0, ""}, {"", ones, 0, ""}, {"ab", 7, 0, "ab"}, {"", 0, 1, "\x00"}, {"", 255, 1, "\xff"}, {"", 256, 1, "\x00"}, {"", 257, 1, "\x01"}, {"x", 0x1234, 1, "x\x34"}, {"x", 0x1234, 2, "x\x12\x34"}, {"x", 0x1234, 3, "x\x00\x12\x34"},
		{"x", 0x123456789abcdef0, 3, "x\xbc\xde\xf0"}, {"x", 0x123456789abcdef0, 7, "x\x34\x56\x78\x9a\xbc\xde\xf0"}, {"x", 0x123456789abcdef0, 8, "x\x12\x34\x56\x78\x9a\xbc\xde\xf0"}, {"x", 0x123456789abcdef0, 9, "x\x12\x34\x56\x78\x9a\xbc\xde\xf0"},
		{"", ones, 8, "\xff\xff\xff\xff\xff\xff\xff\xff"}, {"", ones, 4, "\xff\xff\xff\xff"}, {"", ones - 1, 4, "\xff\xff\xff\xfe"}, {"", 1 << 63, 8, "\x80\x00\x00\x00\x00\x00\x00\x00"}, {"", 1 << 63, 7, "\x00\x00\x00\x00\x00\x00\x00"}, {"", 1 << 32, 4, "\x00\x00\x00\x00"}, {"", 1 << 32, 5, "\x01\x00\x00\x00\x00"},
		{"y", 7, 99, "y\x00\x00\x00\x00\x00\x00\x00\x07"}, {"y", 7, far, "y\x00\x00\x00\x00\x00\x00\x00\x07"}, {"y", 7, 1 << 32, "y\x00\x00\x00\x00\x00\x00\x00\x07"}, {"y", 7, 256, "y\x00\x00\x00\x00\x00\x00\x00\x07"},
		{"y", 7, -1, "y"}, {"y", 7, -8, "y"}, {"y", 7, deep, "y"}, {"", 7, -1, ""}, {"", ones, -99, ""},
	} {
		if p := Put([]byte(c.b), c.v, c.n); string(p) != c.want {
			t.Errorf("Put %d: %x, not %x", i, p, c.want)
		}
	}
	if p := Put(nil, 0x0102, 2); string(p) != "\x01\x02" {
		t.Errorf("Put behind nil: %x", p)
	}
}

// nearest is the n that another one stands for.
func nearest(n int) int {
	if n < 0 {
		return 0
	}
	if n > 8 {
		return 8
	}
	return n
}

// lowest is the lowest n bytes of v.
func lowest(v uint64, n int) *big.Int {
	x := new(big.Int).SetUint64(v)
	return x.Mod(x, new(big.Int).Lsh(big.NewInt(1), uint(8*n)))
}

// P6.2: what is put is read again, held against numbers of any size.
func TestPutNum(t *testing.T) {
	r := rand.New(rand.NewSource(3))
	sizes := []int{0, 1, 2, 3, 4, 5, 6, 7, 8, -1, -2, -7, -8, -9, deep, 9, 10, 16, 64, 255, 256, 1 << 32, 1<<32 + 1, 1 << 62, far}
	for range 400 {
		v := r.Uint64() >> r.Intn(64)
		if r.Intn(8) == 0 {
			v = ones - uint64(r.Intn(3))
		}
		for _, n := range sizes {
			ahead := some(r, r.Intn(5))
			b := Put(ahead, v, n)
			if len(b) != len(ahead)+nearest(n) || !bytes.Equal(b[:len(ahead)], ahead) {
				t.Fatalf("Put(%x, %x, %d): %x", ahead, v, n, b)
			}
			want := lowest(v, nearest(n))
			if x := new(big.Int).SetBytes(b[len(ahead):]); x.Cmp(want) != 0 {
				t.Fatalf("Put(%x, %x, %d): %x", ahead, v, n, b)
			}
			rd := NewReader(append(b, 9, 9))
			rd.Take(len(ahead))
			if x := rd.Num(n); x != want.Uint64() || rd.Left() != 2 || rd.Short() {
				t.Fatalf("Num(%d) of %x: %x, left %d", n, b, x, rd.Left())
			}
		}
	}
}

// P6.2: a number with a sign: nought, below, at both ends.
func TestSigned(t *testing.T) {
	for _, x := range []int32{0, 1, -1, 2, -2, 127, 128, 255, 256, -128, -256, 65535, 65536, -65536, math.MaxInt32, math.MaxInt32 - 1, math.MinInt32, math.MinInt32 + 1} {
		r := NewReader(append(Put([]byte{5}, uint64(int64(x)), 4), 6))
		if r.Num(1) != 5 || r.Signed() != x || r.Left() != 1 || r.Num(1) != 6 || r.Short() {
			t.Errorf("Signed of %d: left %d", x, r.Left())
		}
	}
	for s, want := range map[string]int32{"\x80\x00\x00\x00": math.MinInt32, "\x7f\xff\xff\xff": math.MaxInt32, "\xff\xff\xff\xff": -1, "\x00\x00\x00\x01": 1, "\x00\x00\x00\x80": 128, "\x01\x02\x03\x04": 0x01020304, "\xfe\xdc\xba\x98": -0x1234568} {
		r := NewReader([]byte(s))
		if x := r.Signed(); x != want || r.Left() != 0 || r.Short() {
			t.Errorf("Signed of %x: %d, not %d", s, x, want)
		}
	}
	for n := range 4 {
		r := NewReader(of(n, 255))
		if x := r.Signed(); x != 0 || !r.Short() || r.Left() != 0 {
			t.Errorf("Signed of %d bytes: %d", n, x)
		}
	}
}

// P6.2: taking none, below 0, all that is left, and one more.
func TestTake(t *testing.T) {
	text := "\x00abc\xff"
	for i, c := range []struct {
		n     int
		want  string
		short bool
	}{
		{0, "", false}, {-1, "", false}, {-5, "", false}, {deep, "", false}, {1, "\x00", false}, {2, "\x00a", false}, {4, "\x00abc", false}, {5, text, false}, {6, "", true}, {7, "", true}, {256, "", true}, {1 << 32, "", true}, {1<<32 + 1, "", true}, {far, "", true},
	} {
		r := NewReader([]byte(text))
		b := r.Take(c.n)
		left := len(text) - len(c.want)
		if c.short {
			left = 0
		}
		if string(b) != c.want || r.Short() != c.short || r.Left() != left {
			t.Errorf("Take %d: %x, short %v, left %d", i, b, r.Short(), r.Left())
		}
		if rest := r.Take(left); !c.short && string(rest) != text[len(c.want):] || r.Short() != c.short || r.Left() != 0 {
			t.Errorf("Take %d: behind it %x, short %v, left %d", i, rest, r.Short(), r.Left())
		}
	}
	r := NewReader(of(5000, 7))
	if b := r.Take(4999); !bytes.Equal(b, of(4999, 7)) || r.Left() != 1 || r.Short() {
		t.Errorf("Take of many: %d", len(b))
	}
}

// P6.2: a reader of no bytes, and one that has read just all, aren't short; what asks for no bytes doesn't make them so.
func TestJustAll(t *testing.T) {
	readers := map[string]func() *Reader{
		"nil":    func() *Reader { return NewReader(nil) },
		"none":   func() *Reader { return NewReader([]byte{}) },
		"spare":  func() *Reader { return NewReader([]byte("abc")[:0]) },
		"taken":  func() *Reader { r := NewReader([]byte("abc")); r.Take(3); return r },
		"number": func() *Reader { r := NewReader(of(8, 255)); r.Num(8); return r },
		"past":   func() *Reader { r := NewReader(of(8, 255)); r.Num(9); return r },
		"signed": func() *Reader { r := NewReader(of(4, 1)); r.Signed(); return r },
		"bit":    func() *Reader { r := NewReader([]byte("abc")); r.Num(1); r.Num(2); return r },
	}
	for name, made := range readers {
		r := made()
		for range 2 {
			if r.Short() || r.Left() != 0 || r.Num(0) != 0 || r.Num(-1) != 0 || r.Num(deep) != 0 || len(r.Take(0)) != 0 || len(r.Take(-1)) != 0 || len(r.Take(deep)) != 0 || r.Short() || r.Left() != 0 {
				t.Errorf("%s: short %v, left %d", name, r.Short(), r.Left())
			}
		}
		for _, ask := range []func(*Reader) bool{
			func(r *Reader) bool { return r.Num(1) == 0 }, func(r *Reader) bool { return r.Num(8) == 0 }, func(r *Reader) bool { return r.Num(far) == 0 }, func(r *Reader) bool { return r.Signed() == 0 }, func(r *Reader) bool { return len(r.Take(1)) == 0 }, func(r *Reader) bool { return len(r.Take(far)) == 0 },
		} {
			r := made()
			if !ask(r) || !r.Short() || r.Left() != 0 {
				t.Errorf("%s, and more asked: short %v, left %d", name, r.Short(), r.Left())
			}
		}
	}
}

// P6.2: a short reader: 0 or nothing from then on, whatever is asked, though less than what is there is asked for.
func TestShort(t *testing.T) {
	for name, r := range map[string]*Reader{"num": NewReader(of(7, 255)), "signed": NewReader(of(3, 255)), "take": NewReader(of(9, 255)), "some": NewReader(of(9, 255)), "one": NewReader(nil)} {
		ok := true
		switch name {
		case "num":
			ok = r.Num(8) == 0
		case "signed":
			ok = r.Signed() == 0
		case "take":
			ok = len(r.Take(10)) == 0
		case "some":
			ok = r.Num(4) == 1<<32-1 && !r.Short() && r.Left() == 5 && r.Num(6) == 0
		case "one":
			ok = r.Num(1) == 0
		}
		if !ok {
			t.Errorf("%s: not 0", name)
		}
		for k := range 3 {
			for n := -2; n < 12; n++ {
				if r.Num(n) != 0 || r.Signed() != 0 || len(r.Take(n)) != 0 || r.Left() != 0 || !r.Short() {
					t.Errorf("%s, %d: left %d, short %v", name, k, r.Left(), r.Short())
				}
			}
			if len(r.Take(far)) != 0 || len(r.Take(deep)) != 0 || r.Num(far) != 0 || r.Num(deep) != 0 || r.Left() != 0 || !r.Short() {
				t.Errorf("%s: left %d, short %v", name, r.Left(), r.Short())
			}
		}
	}
}

// plainReader is a reader by a place, that is past the bytes when it is short.
type plainReader struct {
	b  []byte
	at int
}

func (p *plainReader) take(n int) []byte {
	if p.at > len(p.b) || n > len(p.b)-p.at {
		p.at = len(p.b) + 1
		return nil
	}
	p.at += n
	return p.b[p.at-n : p.at]
}

func (p *plainReader) left() int { return max(len(p.b)-p.at, 0) }

// P6.2: readers held against a plain one, at many asks.
func TestReaderPlain(t *testing.T) {
	r := rand.New(rand.NewSource(4))
	short := 0
	for range 3000 {
		b := some(r, r.Intn(60))
		rd, plain := NewReader(b), &plainReader{b: b}
		for range 15 {
			n := r.Intn(13) - 2
			switch r.Intn(3) {
			case 0:
				want := new(big.Int).SetBytes(plain.take(nearest(n)))
				if x := rd.Num(n); x != want.Uint64() {
					t.Fatalf("Num(%d): %x, not %x", n, x, want)
				}
			case 1:
				want := new(big.Int).SetBytes(plain.take(4)).Int64()
				if want >= 1<<31 {
					want -= 1 << 32
				}
				if x := rd.Signed(); int64(x) != want {
					t.Fatalf("Signed: %d, not %d", x, want)
				}
			case 2:
				if x, want := rd.Take(n), plain.take(max(n, 0)); !bytes.Equal(x, want) {
					t.Fatalf("Take(%d): %x, not %x", n, x, want)
				}
			}
			if rd.Left() != plain.left() || rd.Short() != (plain.at > len(b)) {
				t.Fatalf("left %d, short %v, not %d", rd.Left(), rd.Short(), plain.left())
			}
		}
		if rd.Short() {
			short++
		}
	}
	if short < 500 || short > 2950 {
		t.Errorf("%d short ones", short)
	}
}

// P6.2: two readers over the same bytes know nothing of each other.
func TestTwoReaders(t *testing.T) {
	b := []byte("abcdef")
	one, two := NewReader(b), NewReader(b)
	one.Take(9)
	if string(two.Take(2)) != "ab" || !one.Short() || two.Short() || two.Left() != 4 || one.Left() != 0 {
		t.Errorf("left %d and %d", one.Left(), two.Left())
	}
}

// roomy makes bytes with spare room behind them, and tells both.
func roomy(b []byte) (list, whole []byte) {
	whole = append(slices.Clone(b), of(12, 111)...)
	return whole[:len(b)], whole
}

// spoil writes over all that an answer has, its spare room too.
func spoil(b []byte) {
	b = b[:cap(b)]
	for i := range b {
		b[i] ^= 0x5a
	}
}

// checkMemory asks of a call that it leaves what it is handed, its spare room too, and that each answer is of its own.
func checkMemory(t *testing.T, name string, arg []byte, call func([]byte) []byte) {
	t.Helper()
	list, whole := roomy(arg)
	kept := slices.Clone(whole)
	first, other := call(list), call(list)
	same := slices.Clone(other)
	spoil(first)
	if !bytes.Equal(whole, kept) || !bytes.Equal(other, same) {
		t.Errorf("%s changed or shared memory", name)
	}
	clear(whole)
	if !bytes.Equal(other, same) {
		t.Errorf("%s kept what it was handed", name)
	}
}

// DOC.md's rule of memory, where a call answers and where it refuses.
func TestMemory(t *testing.T) {
	for _, b := range texts() {
		checkMemory(t, "Sum", b, func(l []byte) []byte { return Put(nil, uint64(Sum(l)), 4) })
		checkMemory(t, "Close", b, Close)
		checkMemory(t, "Open", b, func(l []byte) []byte { o, _ := Open(l); return o })
		checkMemory(t, "Open of closed", Close(b), func(l []byte) []byte { o, _ := Open(l); return o })
		for n := -1; n < 10; n++ {
			checkMemory(t, "Put", b, func(l []byte) []byte { return Put(l, 0x1122334455667788, n) })
			checkMemory(t, "Take", b, func(l []byte) []byte { return NewReader(l).Take(n) })
			checkMemory(t, "Take all", b, func(l []byte) []byte { return NewReader(l).Take(len(l)) })
		}
	}
}

// DOC.md's rule of memory, of a reader: what is handed in isn't kept, and what is told isn't the reader's own, its spare room neither.
func TestReaderMemory(t *testing.T) {
	list, whole := roomy([]byte("abcdefghijkl"))
	r := NewReader(list)
	clear(whole)
	if x := r.Take(3); string(x) != "abc" {
		t.Errorf("Take: %s", x)
	} else {
		spoil(x)
	}
	if x := r.Take(0); len(x) != 0 {
		t.Errorf("Take: %s", x)
	} else {
		spoil(x)
	}
	two, three := r.Take(2), r.Take(2)
	spoil(two)
	if string(three) != "fg" || r.Num(1) != 'h' || string(r.Take(4)) != "ijkl" || r.Left() != 0 || r.Short() {
		t.Errorf("Take: %s, left %d", three, r.Left())
	}
	for _, b := range whole {
		if b != 0 {
			t.Errorf("the reader wrote on what it was handed: %x", whole)
		}
	}
}

// The chapter's example.
func TestExample(t *testing.T) {
	if h := Sum(nil); h != 0x811c9dc5 {
		t.Errorf("Sum: %x", h)
	}
}
