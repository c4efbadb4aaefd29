package tier

import (
	"fmt"
	"math"
	"math/big"
	"math/rand"
	"regexp"
	"slices"
	"strings"
	"testing"

	"credenza/api"
)

const (
	far  = math.MaxInt
	deep = math.MinInt
)

var (
	rightBits = []int{2, 4, 8}
	wrongBits = []int{0, 1, 3, 5, 6, 7, 9, 10, 12, 16, 32, 64, 128, -1, -2, -4, -8, 256 + 2, 1<<32 + 2, 1<<32 + 4, 1<<32 + 8, deep + 2, deep, far}
	example   = Plan{Group: 4, Window: 2, Layers: []Bits{{8, 4}, {2, 2}}}
)

// of makes a plan of these layers.
func of(group, window int, layers ...Bits) Plan {
	return Plan{Group: group, Window: window, Layers: layers}
}

// same holds plans against each other, field by field.
func same(p, q Plan) bool {
	if p.Group != q.Group || p.Window != q.Window || len(p.Layers) != len(q.Layers) {
		return false
	}
	for i := range p.Layers {
		if p.Layers[i] != q.Layers[i] {
			return false
		}
	}
	return true
}

// empty asks whether a plan is as beside an error.
func empty(p Plan) bool { return p.Group == 0 && p.Window == 0 && len(p.Layers) == 0 }

// copied makes a plan with layers of its own.
func copied(p Plan) Plan {
	p.Layers = slices.Clone(p.Layers)
	return p
}

// pairs are all right bits of a layer.
func pairs() []Bits {
	var l []Bits
	for _, k := range rightBits {
		for _, v := range rightBits {
			l = append(l, Bits{k, v})
		}
	}
	return l
}

// rights are right plans: of each Group and Window, of each number of layers, all bits among them.
func rights() []Plan {
	var l []Plan
	all := pairs()
	for group := 1; group <= 16; group++ {
		for window := 0; window <= 64; window++ {
			p := Plan{Group: group, Window: window}
			for i := range 1 + len(l)%4 {
				p.Layers = append(p.Layers, all[(len(l)+i*(1+group))%len(all)])
			}
			l = append(l, p)
		}
	}
	return l
}

// plainText is a plan's text as the chapter says.
func plainText(p Plan) string {
	s := fmt.Sprintf("g%d w%d", p.Group, p.Window)
	for _, b := range p.Layers {
		s += fmt.Sprintf(" %d/%d", b.Key, b.Value)
	}
	return s
}

// plainRight is what Right must tell.
func plainRight(p Plan) api.Errno {
	if p.Group < 1 || p.Group > 16 || p.Window < 0 || p.Window > 64 {
		return api.ErrRange
	}
	if len(p.Layers) < 1 || len(p.Layers) > 4 {
		return api.ErrMany
	}
	for _, b := range p.Layers {
		if !slices.Contains(rightBits, b.Key) || !slices.Contains(rightBits, b.Value) {
			return api.ErrBits
		}
	}
	return api.OK
}

var (
	formed = regexp.MustCompile(`\Ag(0|[1-9][0-9]*) w(0|[1-9][0-9]*)( (0|[1-9][0-9]*)/(0|[1-9][0-9]*))+\z`)
	digits = regexp.MustCompile(`[0-9]+`)
	bound  = big.NewInt(1 << 31)
)

// plainParse is what Parse must tell, by a pattern and by numbers of any size.
func plainParse(s string) (Plan, api.Errno) {
	if !formed.MatchString(s) {
		return Plan{}, api.ErrForm
	}
	var l []int
	for _, word := range digits.FindAllString(s, -1) {
		n, _ := new(big.Int).SetString(word, 10)
		if n.Cmp(bound) >= 0 {
			return Plan{}, api.ErrForm
		}
		l = append(l, int(n.Int64()))
	}
	p := Plan{Group: l[0], Window: l[1]}
	for i := 2; i < len(l); i += 2 {
		p.Layers = append(p.Layers, Bits{l[i], l[i+1]})
	}
	if e := plainRight(p); e != api.OK {
		return Plan{}, e
	}
	return p, api.OK
}

// checkRight asks Right and Text of one plan, and that it stays.
func checkRight(t *testing.T, p Plan, want api.Errno) {
	t.Helper()
	before := copied(p)
	if e := Right(p); e != want {
		t.Errorf("Right(%v): %d, not %d", p, e, want)
	}
	text := ""
	if want == api.OK {
		text = plainText(p)
	}
	if s, e := Text(p); s != text || e != want {
		t.Errorf("Text(%v): %q, %d, not %q, %d", p, s, e, text, want)
	}
	if !same(p, before) {
		t.Errorf("%v was changed: %v", before, p)
	}
}

// checkParse asks Parse of one text.
func checkParse(t *testing.T, s string, want Plan, e api.Errno) {
	t.Helper()
	p, got := Parse(s)
	if got != e || !same(p, want) {
		t.Errorf("Parse(%.80q): %v, %d, not %v, %d", s, p, got, want, e)
	}
	if got == api.OK {
		if text, e := Text(p); text != s || e != api.OK {
			t.Errorf("Text of Parse(%.80q): %q, %d", s, text, e)
		}
	}
}

// P9.1: Group and Window at their ends and past them, each beside the other one's ends.
func TestRightRange(t *testing.T) {
	groups := []int{deep, deep + 1, -1 << 32, -17, -16, -2, -1, 0, 1, 2, 8, 15, 16, 17, 18, 64, 1<<16 + 1, 1<<32 + 1, 1<<32 + 16, far}
	windows := []int{deep, deep + 1, -1 << 32, -65, -64, -2, -1, 0, 1, 2, 16, 63, 64, 65, 66, 128, 1 << 16, 1<<32 + 1, 1 << 32, far}
	for _, group := range groups {
		for _, window := range windows {
			want := api.ErrRange
			if group >= 1 && group <= 16 && window >= 0 && window <= 64 {
				want = api.OK
			}
			checkRight(t, of(group, window, Bits{8, 4}), want)
		}
	}
	for n := -100; n <= 100; n++ {
		checkRight(t, of(n, 0, Bits{2, 2}), plainRight(of(n, 0, Bits{2, 2})))
		checkRight(t, of(1, n, Bits{2, 2}), plainRight(of(1, n, Bits{2, 2})))
	}
}

// P9.1: no layers, one, MaxLayers, one more, and very many.
func TestRightMany(t *testing.T) {
	for n, want := range []api.Errno{api.ErrMany, api.OK, api.OK, api.OK, api.OK, api.ErrMany, api.ErrMany, api.ErrMany, api.ErrMany} {
		checkRight(t, of(1, 0, slices.Repeat([]Bits{{4, 8}}, n)...), want)
		checkRight(t, of(16, 64, slices.Repeat([]Bits{{2, 2}}, n)...), want)
	}
	checkRight(t, Plan{Group: 1, Layers: []Bits{}}, api.ErrMany)
	for _, n := range []int{256, 257, 260, 1 << 16, 1<<16 + 1, 1<<16 + 4} {
		checkRight(t, of(1, 0, slices.Repeat([]Bits{{4, 8}}, n)...), api.ErrMany)
	}
}

// P9.1: Key and Value of 2, 4 and 8 alone, in each layer of each number of them.
func TestRightBits(t *testing.T) {
	for n := 1; n <= 4; n++ {
		for at := range n {
			for _, b := range pairs() {
				layers := slices.Repeat([]Bits{{4, 4}}, n)
				layers[at] = b
				checkRight(t, of(4, 2, layers...), api.OK)
				for _, wrong := range wrongBits {
					layers[at] = Bits{wrong, b.Value}
					checkRight(t, of(4, 2, layers...), api.ErrBits)
					layers[at] = Bits{b.Key, wrong}
					checkRight(t, of(4, 2, layers...), api.ErrBits)
					layers[at] = Bits{wrong, wrong}
					checkRight(t, of(4, 2, layers...), api.ErrBits)
				}
			}
		}
	}
	for n := -300; n <= 300; n++ {
		for _, b := range []Bits{{n, 8}, {8, n}, {n, n}} {
			checkRight(t, of(1, 0, b), plainRight(of(1, 0, b)))
		}
	}
}

// P9.1: where two errors apply, the first one, whichever they are.
func TestRightOrder(t *testing.T) {
	many, wrong := slices.Repeat([]Bits{{8, 8}}, 5), []Bits{{8, 8}, {8, 3}}
	for _, own := range []Plan{{}, of(0, 2), of(17, 2), of(-1, 2), of(4, -1), of(4, 65), of(0, 65), of(17, -1)} {
		for _, layers := range [][]Bits{nil, {}, many, wrong, {{8, 8}}, slices.Repeat([]Bits{{3, 3}}, 5)} {
			own.Layers = layers
			checkRight(t, own, api.ErrRange)
		}
	}
	checkRight(t, of(4, 2, append(slices.Clone(many), wrong...)...), api.ErrMany)
	checkRight(t, of(4, 2, append(slices.Clone(wrong), many...)...), api.ErrMany)
	checkRight(t, of(4, 2, slices.Repeat([]Bits{{3, 3}}, 5)...), api.ErrMany)
}

// P9.1, P9.2: a right plan has its text, and this parses to that plan.
func TestTextAndParse(t *testing.T) {
	texts := map[string]int{}
	plans := rights()
	for i, p := range plans {
		checkRight(t, p, api.OK)
		checkParse(t, plainText(p), p, api.OK)
		texts[plainText(p)] = i
	}
	if len(texts) != len(plans) {
		t.Errorf("%d texts of %d plans", len(texts), len(plans))
	}
	for _, a := range pairs() {
		for _, b := range pairs() {
			p := of(10, 10, a, b, a, b)
			checkRight(t, p, api.OK)
			checkParse(t, plainText(p), p, api.OK)
		}
	}
}

// badForms are texts that aren't formed as a plan's.
func badForms() []string {
	l := []string{
		// None at all, and less than a plan.
		"", " ", "  ", "g", "w", "/", "g4", "g4 ", "g4 w2", "g4 w2 ", "g4 w2  ", "w2 8/4", "g4 8/4", "8/4", "8/4 2/2", "g4 w2 g4 w2 8/4",
		// A letter missing, or another one, or one more.
		"4 w2 8/4", "g4 2 8/4", "G4 w2 8/4", "g4 W2 8/4", "w4 g2 8/4", "w2 g4 8/4", "g4 g2 8/4", "w4 w2 8/4", "h4 w2 8/4", "g4 v2 8/4", "gg4 w2 8/4", "g4 ww2 8/4", "4g w2 8/4", "g4 2w 8/4", "g4 w2 k8/v4", "g4 w2 8/4g", "xg4 w2 8/4", "gw4 w2 8/4",
		// A blank too few, two, one ahead or behind.
		"g4w2 8/4", "g4 w28/4/", "g4 w28/4", "g4 w2 8/42/2", "g4w28/4", "g4  w2 8/4", "g4 w2  8/4", "g4 w2 8/4  2/2", " g4 w2 8/4", "  g4 w2 8/4", "g4 w2 8/4 ", "g4 w2 8/4  ", "g4 w2 8/4 2/2 ", "g 4 w2 8/4", "g4 w 2 8/4", "g4 w2 8 /4", "g4 w2 8/ 4", "g4 w2 8 / 4", "g1 6 w2 8/4",
		// Another sign between two, ahead or behind.
		"g4\tw2 8/4", "g4 w2\t8/4", "g4 w2 8/4\t2/2", "g4\nw2 8/4", "g4,w2,8/4", "g4, w2 8/4", "g4 w2,8/4", "g4 w2 8/4,2/2", "g4_w2 8/4", "g4\u00a0w2 8/4", "g4\x00w2 8/4", "g4 w2 8/4\n", "g4 w2 8/4\x00", "g4 w2 8/4\r\n", "\ufeffg4 w2 8/4", "g4 w2 8-4", "g4 w2 8:4", "g4 w2 8\\4", "g4 w2 8.4", "g4 w2 8\u20444", "g4/w2/8/4", "g4 w2/8/4", "g4 w2 8/4/2/2",
		// Noughts ahead.
		"g04 w2 8/4", "g4 w02 8/4", "g4 w2 08/4", "g4 w2 8/04", "g00 w2 8/4", "g4 w00 8/4", "g4 w2 00/4", "g4 w2 8/00", "g4 w2 8/4 02/2", "g4 w2 8/4 2/02", "g0000000000000000000000000000004 w2 8/4", "g4 w0000000000 8/4",
		// A sign ahead of a number.
		"g+4 w2 8/4", "g-4 w2 8/4", "g4 w+2 8/4", "g4 w-2 8/4", "g4 w-1 8/4", "g4 w-0 8/4", "g4 w+0 8/4", "g4 w2 +8/4", "g4 w2 -8/4", "g4 w2 8/+4", "g4 w2 8/-4", "g--4 w2 8/4",
		// No digits, or not digits alone.
		"g w2 8/4", "g4 w 8/4", "g4 w2 /4", "g4 w2 8/", "g4 w2 /", "gx w2 8/4", "g4 wx 8/4", "g4 w2 x/4", "g4 w2 8/x", "g0x4 w2 8/4", "g0b1 w2 8/4", "g0o4 w2 8/4", "g4. w2 8/4", "g4.0 w2 8/4", "g4e0 w2 8/4", "g1_0 w2 8/4", "g4 w1_0 8/4", "g4 w2 8/4_", "ga w2 8/4", "g4 w2 \u0668/4", "g\uff14 w2 8/4", "g4 w2 8/4\xff", "g4\xff w2 8/4", "g: w2 8/4", "g4 w2 8/4.",
		// A layer without `/`, without one of its numbers, or with more.
		"g4 w2 8", "g4 w2 84", "g4 w2 8/4 2", "g4 w2 8 4", "g4 w2 8 2/2", "g4 w2 8/4 /2", "g4 w2 8/4 2/", "g4 w2 8//4", "g4 w2 8/4/", "g4 w2 /8/4", "g4 w2 8/4/2", "g4 w2 8/4 2/2/2",
		// Not right numbers, in texts that aren't formed.
		"g0 w2", "g17 w2 ", "g4 w65 8", "g0 w2 8/4 ", "g4 w2 3/8 ", "g4 w2 8/8 8/8 8/8 8/8 8/8 ", "g4 w2 8/8 8/8 8/8 8/8 8/8 8/", "g4 w2 8/8 8/8 8/8 8/8 8/8 8/8 8/08",
	}
	// Numbers of 2^31 and above, in each place of a text.
	for _, n := range []string{"2147483648", "2147483649", "2147483652", "2147483656", "3000000000", "4294967295", "4294967296", "4294967298", "4294967300", "4294967304", "9223372036854775807", "9223372036854775808", "18446744073709551615", "18446744073709551616", "18446744073709551618", "18446744073709551620", "18446744073709551624", "340282366920938463463374607431768211460", "1" + strings.Repeat("0", 100), strings.Repeat("9", 1<<16)} {
		l = append(l, "g"+n+" w2 8/4", "g4 w"+n+" 8/4", "g4 w2 "+n+"/4", "g4 w2 8/"+n, "g4 w2 8/4 "+n+"/2", "g4 w2 8/4 2/"+n, "g4 w2 8/8 8/8 8/8 8/8 8/8 8/"+n, "g0 w2 "+n+"/4", "g-"+n+" w2 8/4")
	}
	return l
}

// P9.2: what isn't formed as a text of a plan.
func TestParseForm(t *testing.T) {
	for _, s := range badForms() {
		if _, e := plainParse(s); e != api.ErrForm {
			t.Fatalf("%.80q is formed", s)
		}
		checkParse(t, s, Plan{}, api.ErrForm)
	}
}

// P9.2: texts that are well formed, and say a plan that isn't right: one for each of Right's errors, and the first of several.
func TestParseRight(t *testing.T) {
	long := strings.Repeat(" 8/8", 1<<16)
	for _, c := range []struct {
		s string
		e api.Errno
	}{
		{"g0 w2 8/4", api.ErrRange}, {"g17 w2 8/4", api.ErrRange}, {"g4 w65 8/4", api.ErrRange}, {"g2147483647 w2 8/4", api.ErrRange}, {"g4 w2147483647 8/4", api.ErrRange}, {"g0 w0 0/0", api.ErrRange}, {"g0 w2 3/3", api.ErrRange}, {"g4 w65 8/8 8/8 8/8 8/8 8/8", api.ErrRange}, {"g17 w65 3/3 3/3 3/3 3/3 3/3", api.ErrRange}, {"g17 w2" + long, api.ErrRange}, {"g10 w640 8/4", api.ErrRange},
		{"g4 w2 8/8 8/8 8/8 8/8 8/8", api.ErrMany}, {"g4 w2 8/8 8/8 8/8 8/8 3/3", api.ErrMany}, {"g4 w2 0/0 0/0 0/0 0/0 0/0", api.ErrMany}, {"g4 w2" + long, api.ErrMany}, {"g4 w2 8/8 8/8 8/8 8/8 8/8 8/8 2147483647/0", api.ErrMany},
		{"g4 w2 3/8", api.ErrBits}, {"g4 w2 8/3", api.ErrBits}, {"g4 w2 0/8", api.ErrBits}, {"g4 w2 8/0", api.ErrBits}, {"g4 w2 1/8", api.ErrBits}, {"g4 w2 8/16", api.ErrBits}, {"g4 w2 2147483647/8", api.ErrBits}, {"g4 w2 8/2147483647", api.ErrBits}, {"g4 w2 8/8 2/16", api.ErrBits}, {"g4 w2 8/8 8/8 8/8 8/10", api.ErrBits}, {"g4 w2 20/8", api.ErrBits}, {"g4 w2 8/40", api.ErrBits},
	} {
		checkParse(t, c.s, Plan{}, c.e)
	}
	for _, c := range []struct {
		s string
		p Plan
	}{
		{"g1 w0 2/2", of(1, 0, Bits{2, 2})}, {"g16 w64 8/8 2/2 4/4 2/8", of(16, 64, Bits{8, 8}, Bits{2, 2}, Bits{4, 4}, Bits{2, 8})}, {"g10 w60 4/2", of(10, 60, Bits{4, 2})}, {"g4 w2 8/4 2/2", example},
	} {
		checkParse(t, c.s, c.p, api.OK)
	}
	for n := range 300 {
		for _, p := range []Plan{of(n, 1, Bits{2, 2}), of(1, n, Bits{2, 2}), of(1, 1, Bits{n, 2}), of(1, 1, Bits{2, n}), of(1, 1, Bits{2, 4}, Bits{n, n})} {
			e := plainRight(p)
			want := p
			if e != api.OK {
				want = Plan{}
			}
			checkParse(t, plainText(p), want, e)
		}
	}
}

// P9.2: each text but for one byte or two, held against a pattern.
func TestParseNear(t *testing.T) {
	signs := []byte("gw /01248693+-._,\tGx\x00\xff")
	seen := map[api.Errno]int{}
	check := func(s string) {
		p, e := plainParse(s)
		seen[e]++
		checkParse(t, s, p, e)
	}
	for _, s := range []string{"g4 w2 8/4 2/2", "g1 w0 2/2", "g16 w64 8/8 2/2 4/4 2/8", "g2147483647 w0 2/2", "g4 w2 8/8 8/8 8/8 8/8 8/8"} {
		for i := range len(s) + 1 {
			check(s[:i])
			check(s[i:])
			for j := i; j <= len(s); j++ {
				check(s[:i] + s[j:])
			}
			for _, c := range signs {
				check(s[:i] + string([]byte{c}) + s[i:])
				if i < len(s) {
					check(s[:i] + string([]byte{c}) + s[i+1:])
				}
			}
		}
	}
	r := rand.New(rand.NewSource(9))
	parts := []string{"g", "w", " ", "/", "0", "1", "2", "4", "8", "16", "64", "g4", "w2", " 8/4", " 2/2", "g4 w2", "-", "+"}
	for range 200000 {
		s := ""
		for range r.Intn(9) {
			s += parts[r.Intn(len(parts))]
		}
		check(s)
	}
	for _, e := range []api.Errno{api.OK, api.ErrForm, api.ErrRange, api.ErrMany, api.ErrBits} {
		if seen[e] == 0 {
			t.Errorf("%d was never asked for", e)
		}
	}
}

// P9.1: plans that differ in one thing, right ones and others; nil and empty are one.
func TestEqual(t *testing.T) {
	p := of(4, 2, Bits{8, 4}, Bits{2, 2}, Bits{4, 8})
	for _, q := range []Plan{
		of(5, 2, p.Layers...), of(-4, 2, p.Layers...), of(4+1<<32, 2, p.Layers...), of(4, 3, p.Layers...), of(4, -2, p.Layers...), of(2, 4, p.Layers...), of(3, 3, p.Layers...),
		of(4, 2, Bits{2, 4}, Bits{2, 2}, Bits{4, 8}), of(4, 2, Bits{8, 4}, Bits{4, 2}, Bits{4, 8}), of(4, 2, Bits{8, 4}, Bits{2, 2}, Bits{8, 8}),
		of(4, 2, Bits{8, 8}, Bits{2, 2}, Bits{4, 8}), of(4, 2, Bits{8, 4}, Bits{2, 4}, Bits{4, 8}), of(4, 2, Bits{8, 4}, Bits{2, 2}, Bits{4, 4}),
		of(4, 2, Bits{4, 8}, Bits{2, 2}, Bits{4, 8}), of(4, 2, Bits{2, 2}, Bits{8, 4}, Bits{4, 8}), of(4, 2, Bits{8, 4}, Bits{2, 2}, Bits{8, 4}),
		of(4, 2, Bits{8, 4}, Bits{2, 2}), of(4, 2, Bits{2, 2}, Bits{4, 8}), of(4, 2, Bits{8, 4}, Bits{2, 2}, Bits{4, 8}, Bits{4, 8}), of(4, 2, Bits{8, 4}, Bits{2, 2}, Bits{4, 8}, Bits{}), of(4, 2), {}, {Layers: p.Layers},
	} {
		if Equal(p, q) || Equal(q, p) {
			t.Errorf("Equal(%v, %v)", p, q)
		}
		if !Equal(q, copied(q)) || !Equal(copied(q), q) {
			t.Errorf("%v isn't Equal to itself", q)
		}
	}
	if !Equal(p, p) || !Equal(p, copied(p)) || !Equal(Plan{}, Plan{Layers: []Bits{}}) || !Equal(Plan{Group: 1, Layers: []Bits{}}, Plan{Group: 1}) {
		t.Errorf("Equal: false")
	}
	if roomy := append(make([]Bits, 0, 9), p.Layers...); !Equal(of(4, 2, roomy...), p) {
		t.Errorf("Equal hangs on spare room")
	}
	plans := rights()
	for i, p := range plans {
		for _, j := range []int{0, i / 2, i, (i + 1) % len(plans), (i + 65) % len(plans), len(plans) - 1} {
			if Equal(p, plans[j]) != (i == j) {
				t.Errorf("Equal(%v, %v): %v", p, plans[j], i != j)
			}
		}
	}
}

// plainCount counts what is quantized token by token: a group is, once all its tokens are elder than the newest Window.
func plainCount(p Plan, tokens int) (groups, plain int) {
	end := p.Group
	for end+p.Window <= tokens {
		groups++
		end += p.Group
	}
	return groups, tokens - (end - p.Group)
}

// P9.3: all right plans at all tokens: what is quantized and what is plain make up all; Groups never falls, and rises by no more than 1; Most is reached, and never passed.
func TestCounts(t *testing.T) {
	for _, p := range rights() {
		before, greatest := 0, 0
		for tokens := range 1025 {
			groups, plain := p.Groups(tokens), p.Plain(tokens)
			if g, n := plainCount(p, tokens); groups != g || plain != n {
				t.Fatalf("%v of %d: %d, %d, not %d, %d", p, tokens, groups, plain, g, n)
			}
			if groups*p.Group+plain != tokens || plain < 0 || plain > p.Most() || groups < before || groups > before+1 {
				t.Fatalf("%v of %d: %d, %d, behind %d, at most %d", p, tokens, groups, plain, before, p.Most())
			}
			before, greatest = groups, max(greatest, plain)
		}
		if p.Most() != greatest || p.Most() != p.Window+p.Group-1 {
			t.Errorf("%v: Most %d, not %d", p, p.Most(), greatest)
		}
	}
}

// P9.3: of a number of tokens below 0 or above MaxLength, the nearest one's.
func TestNearest(t *testing.T) {
	for _, p := range rights() {
		for _, tokens := range []int{-1, -2, -4, -1024, -1 << 32, 1 - 1<<32, deep + 1024, deep + 1, deep} {
			if p.Groups(tokens) != 0 || p.Plain(tokens) != 0 {
				t.Errorf("%v of %d: %d, %d", p, tokens, p.Groups(tokens), p.Plain(tokens))
			}
		}
		groups, plain := plainCount(p, 1024)
		for _, tokens := range []int{1024, 1025, 1026, 1040, 2048, 5000, 1 << 16, 1<<31 - 1, 1 << 31, 1 << 32, 1<<32 + 5, far - 1, far} {
			if p.Groups(tokens) != groups || p.Plain(tokens) != plain {
				t.Errorf("%v of %d: %d, %d, not %d, %d", p, tokens, p.Groups(tokens), p.Plain(tokens), groups, plain)
			}
		}
	}
}

// P9.3: just below and just at Window, and where a further group becomes whole.
func TestCountEdges(t *testing.T) {
	for i, c := range []struct {
		p                     Plan
		tokens, groups, plain int
	}{
		{example, 0, 0, 0}, {example, 1, 0, 1}, {example, 2, 0, 2}, {example, 3, 0, 3}, {example, 5, 0, 5}, {example, 6, 1, 2}, {example, 7, 1, 3}, {example, 9, 1, 5}, {example, 10, 2, 2}, {example, 1021, 254, 5}, {example, 1022, 255, 2}, {example, 1023, 255, 3}, {example, 1024, 255, 4},
		{of(1, 0, Bits{2, 2}), 0, 0, 0}, {of(1, 0, Bits{2, 2}), 1, 1, 0}, {of(1, 0, Bits{2, 2}), 1023, 1023, 0}, {of(1, 0, Bits{2, 2}), 1024, 1024, 0},
		{of(1, 64, Bits{2, 2}), 63, 0, 63}, {of(1, 64, Bits{2, 2}), 64, 0, 64}, {of(1, 64, Bits{2, 2}), 65, 1, 64}, {of(1, 64, Bits{2, 2}), 1024, 960, 64},
		{of(16, 0, Bits{2, 2}), 15, 0, 15}, {of(16, 0, Bits{2, 2}), 16, 1, 0}, {of(16, 0, Bits{2, 2}), 31, 1, 15}, {of(16, 0, Bits{2, 2}), 1023, 63, 15}, {of(16, 0, Bits{2, 2}), 1024, 64, 0},
		{of(16, 64, Bits{2, 2}), 63, 0, 63}, {of(16, 64, Bits{2, 2}), 64, 0, 64}, {of(16, 64, Bits{2, 2}), 79, 0, 79}, {of(16, 64, Bits{2, 2}), 80, 1, 64}, {of(16, 64, Bits{2, 2}), 95, 1, 79}, {of(16, 64, Bits{2, 2}), 96, 2, 64}, {of(16, 64, Bits{2, 2}), 1023, 59, 79}, {of(16, 64, Bits{2, 2}), 1024, 60, 64},
	} {
		if c.p.Groups(c.tokens) != c.groups || c.p.Plain(c.tokens) != c.plain {
			t.Errorf("%d: %d, %d, not %d, %d", i, c.p.Groups(c.tokens), c.p.Plain(c.tokens), c.groups, c.plain)
		}
	}
	for _, c := range []struct{ group, window, most int }{{1, 0, 0}, {1, 64, 64}, {16, 0, 15}, {16, 64, 79}, {4, 2, 5}} {
		if p := of(c.group, c.window, Bits{8, 8}); p.Most() != c.most {
			t.Errorf("Most of %v: %d, not %d", p, p.Most(), c.most)
		}
	}
}

// The chapter's example.
func TestExample(t *testing.T) {
	p, e := Parse("g4 w2 8/4 2/2")
	if e != api.OK || !same(p, example) {
		t.Fatalf("Parse: %v, %d", p, e)
	}
	if p.Groups(6) != 1 || p.Plain(6) != 2 || p.Groups(9) != 1 {
		t.Errorf("of 6: %d, %d; of 9: %d", p.Groups(6), p.Plain(6), p.Groups(9))
	}
	if s, e := Text(p); s != "g4 w2 8/4 2/2" || e != api.OK {
		t.Errorf("Text: %q, %d", s, e)
	}
}

// P1: no call panics, whatever the plan is, and all end.
func TestAnyPlan(t *testing.T) {
	numbers := []int{deep, deep + 1, -1 << 32, -64, -1, 0, 1, 16, 17, 64, 65, 1 << 32, far - 1, far}
	for _, group := range numbers {
		for _, window := range numbers {
			for _, layers := range [][]Bits{nil, {}, {{}}, {{8, 8}}, {{deep, far}}, make([]Bits, 1000)} {
				p := Plan{Group: group, Window: window, Layers: layers}
				checkRight(t, p, plainRight(p))
				if !Equal(p, copied(p)) {
					t.Errorf("%v isn't Equal to itself", p)
				}
				for _, tokens := range numbers {
					p.Groups(tokens)
					p.Plain(tokens)
				}
				p.Most()
			}
		}
	}
}

// What is handed in stays, its spare room too; what is told is new memory, and nothing of it is kept.
func TestMemory(t *testing.T) {
	mark := Bits{77, 99}
	room := []Bits{{8, 4}, {2, 2}, mark, mark}
	p := of(4, 2, room[:2]...)
	for range 2 {
		Right(p)
		Text(p)
		Equal(p, p)
		p.Groups(9)
		p.Plain(9)
		p.Most()
	}
	if !same(p, example) || !slices.Equal(room, []Bits{{8, 4}, {2, 2}, mark, mark}) {
		t.Errorf("what was handed in was changed: %v", room)
	}
	s, _ := Text(p)
	first, _ := Parse(s)
	second, _ := Parse(s)
	for _, q := range []Plan{first, p} {
		spare := q.Layers[:cap(q.Layers)]
		for i := range spare {
			spare[i] = mark
		}
	}
	third, e := Parse(s)
	if s != "g4 w2 8/4 2/2" || !same(second, example) || !same(third, example) || e != api.OK {
		t.Errorf("answers share memory: %q, %v, %v", s, second, third)
	}
	for _, s := range badForms()[:40] {
		if q, e := Parse(s); e != api.ErrForm || !empty(q) {
			t.Errorf("Parse(%q): %v, %d", s, q, e)
		}
	}
	for _, s := range []string{"g0 w2 8/4", "g4 w2 8/8 8/8 8/8 8/8 8/8", "g4 w2 8/3"} {
		if q, e := Parse(s); e == api.OK || !empty(q) {
			t.Errorf("Parse(%q): %v, %d", s, q, e)
		}
	}
}
