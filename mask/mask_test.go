package mask

import (
	"math"
	"math/big"
	"testing"

	"tintype/api"
)

// all32 is the word whose 32 bits all are 1.
const all32 = 1<<32 - 1

var white = api.Color{R: 255, G: 255, B: 255, A: 255}

// random tells numbers below n, of a seed of its own.
func random() func(n int) int {
	seed := uint64(1)
	return func(n int) int {
		seed = seed*6364136223846793005 + 1442695040888963407
		return int(seed>>31) % n
	}
}

// one tells whether a bit of a word is 1.
func one(word, bit int) bool { return word>>bit&1 == 1 }

// placeOf is a mask's place, found bit by bit; false: its bits don't stand side by side.
func placeOf(mask, width int) (Mask, bool) {
	m := Mask{}
	for bit := range width {
		switch {
		case !one(mask, bit):
		case m.Bits == 0:
			m = Mask{Shift: bit, Bits: 1}
		case one(mask, bit-1):
			m.Bits++
		default:
			return Mask{}, false
		}
	}
	return m, true
}

// places are all that a mask of so many bits can have.
func places(width int) []Mask {
	l := []Mask{{}}
	for shift := range width {
		for n := 1; n <= width-shift; n++ {
			l = append(l, Mask{Shift: shift, Bits: n})
		}
	}
	return l
}

// noPlaces are Masks that no mask of 32 bits has.
var noPlaces = []Mask{
	{1, 0}, {5, 0}, {31, 0}, {32, 0}, {-1, 0}, {math.MaxInt, 0}, {math.MinInt, 0},
	{0, -1}, {5, -5}, {0, -32}, {31, -1}, {0, math.MinInt}, {1, math.MinInt}, {31, math.MinInt},
	{0, 33}, {0, 34}, {0, 64}, {0, 63}, {0, 1 << 32}, {0, math.MaxInt},
	{1, 32}, {2, 31}, {16, 17}, {30, 3}, {31, 2}, {32, 1}, {33, 1}, {32, 32}, {63, 1}, {64, 1}, {40, 24},
	{-1, 1}, {-1, 2}, {-1, 32}, {-1, 33}, {-5, 5}, {-32, 32}, {-32, 64}, {math.MinInt, 1}, {math.MinInt, 32},
	{1, math.MaxInt}, {31, math.MaxInt}, {math.MaxInt, 1}, {math.MaxInt, 32}, {math.MaxInt, math.MaxInt},
	{math.MaxInt - 31, 32}, {math.MinInt, math.MinInt}, {math.MinInt, math.MaxInt}, {math.MaxInt, math.MinInt}, {-1, -1}, {1 << 32, 1},
}

// wrongWidths are widths that no word has.
var wrongWidths = []int{math.MinInt, -32, -16, -1, 0, 1, 8, 15, 17, 24, 31, 33, 48, 64, 1 << 16, 1<<32 + 16, 1<<32 + 32, math.MaxInt}

// outside are numbers that are no words of so many bits.
func outside(width int) []int {
	return []int{math.MinInt, math.MinInt + 1, -1 << 32, -1 << 31, -1 << 16, -2, -1, 1 << width, 1<<width + 1, 1<<width | 0x7c00, 3 << (width - 1), 1<<33 - 1, 1 << 40, 1 << 62, math.MaxInt - 1, math.MaxInt}
}

func expectFind(t *testing.T, mask, width int, want Mask, e api.Errno) {
	t.Helper()
	if m, got := Find(mask, width); m != want || got != e {
		t.Errorf("Find(%x, %d) = %+v, %d, not %+v, %d", mask, width, m, got, want, e)
	}
}

func expectOf(t *testing.T, m Mask, word, want int) {
	t.Helper()
	if got := m.Of(word); got != want {
		t.Errorf("%+v of %x is %x, not %x", m, word, got, want)
	}
}

func expectColor(t *testing.T, s Set, word int, want api.Color) {
	t.Helper()
	if got := s.Color(word); got != want {
		t.Errorf("%+v: the colour of %x is %v, not %v", s, word, got, want)
	}
}

func expectWord(t *testing.T, s Set, c api.Color, want int) {
	t.Helper()
	if got := s.Word(c); got != want {
		t.Errorf("%+v: the word of %v is %x, not %x", s, c, got, want)
	}
}

// four is the set of four masks, that there must be.
func four(t *testing.T, r, g, b, a, width int) Set {
	t.Helper()
	s, at, e := Four(r, g, b, a, width)
	if at != 0 || e != api.OK {
		t.Fatalf("Four(%x, %x, %x, %x, %d): %d, %d", r, g, b, a, width, at, e)
	}
	return s
}

func common(t *testing.T, bits int) Set {
	t.Helper()
	s, ok := Common(bits)
	if !ok {
		t.Fatalf("no common set of %d bits", bits)
	}
	return s
}

// P9.1: the examples of the chapter.
func TestExample(t *testing.T) {
	expectFind(t, 0x7c00, 16, Mask{Shift: 10, Bits: 5}, api.OK)
	expectColor(t, common(t, 16), 0x7fff, white)
}

// P9.1: places by hand.
func TestFindByHand(t *testing.T) {
	cases := []struct {
		mask, width int
		want        Mask
	}{
		{0, 16, Mask{}}, {0, 32, Mask{}},
		{1, 16, Mask{0, 1}}, {1, 32, Mask{0, 1}},
		{2, 16, Mask{1, 1}}, {3, 32, Mask{0, 2}},
		{0x1f, 16, Mask{0, 5}}, {0x7e0, 16, Mask{5, 6}}, {0xf800, 16, Mask{11, 5}},
		{0x8000, 16, Mask{15, 1}}, {0x8000, 32, Mask{15, 1}},
		{0xffff, 16, Mask{0, 16}}, {0xffff, 32, Mask{0, 16}},
		{0xff0000, 32, Mask{16, 8}}, {0xff000000, 32, Mask{24, 8}},
		{0x10000, 32, Mask{16, 1}}, {0x18000, 32, Mask{15, 2}},
		{0x80000000, 32, Mask{31, 1}}, {0xc0000000, 32, Mask{30, 2}},
		{0x7fffffff, 32, Mask{0, 31}}, {0xfffffffe, 32, Mask{1, 31}}, {all32, 32, Mask{0, 32}},
	}
	for _, c := range cases {
		expectFind(t, c.mask, c.width, c.want, api.OK)
	}
}

// P9.1: all masks of 16 bits, as words of both widths.
func TestFindOf16(t *testing.T) {
	for mask := range 1 << 16 {
		want, ok := placeOf(mask, 16)
		e := api.OK
		if !ok {
			e = api.ErrForm
		}
		expectFind(t, mask, 16, want, e)
		expectFind(t, mask, 32, want, e)
	}
}

// P9.1: all masks of 32 bits that may be, and each of them with one bit changed.
func TestFindOf32(t *testing.T) {
	for _, m := range places(32) {
		mask := (1<<m.Bits - 1) << m.Shift
		expectFind(t, mask, 32, m, api.OK)
		for bit := range 32 {
			other := mask ^ 1<<bit
			want, ok := placeOf(other, 32)
			e := api.OK
			if !ok {
				e = api.ErrForm
			}
			expectFind(t, other, 32, want, e)
		}
	}
}

// P9.1: widths that no word has are wrong ahead of all masks.
func TestFindOfWrongWidth(t *testing.T) {
	for _, width := range wrongWidths {
		for _, mask := range append([]int{0, 1, 5, 0x7c00, 0xffff, 0x10000, all32}, outside(32)...) {
			expectFind(t, mask, width, Mask{}, api.ErrArg)
		}
	}
}

// P9.1: numbers that are no words are wrong ahead of their gaps.
func TestFindOfNoWord(t *testing.T) {
	for _, width := range []int{16, 32} {
		for _, mask := range outside(width) {
			expectFind(t, mask, width, Mask{}, api.ErrRange)
		}
		expectFind(t, 1<<width|5, width, Mask{}, api.ErrRange)
		expectFind(t, -6, width, Mask{}, api.ErrRange)
		expectFind(t, 1<<width-1, width, Mask{0, width}, api.OK)
		expectFind(t, 1<<width-3, width, Mask{}, api.ErrForm)
	}
	expectFind(t, 0x10000, 16, Mask{}, api.ErrRange)
	expectFind(t, 0xff0000, 16, Mask{}, api.ErrRange)
}

// words are some whose bits beyond the lowest 32 aren't looked at, too.
func words() []int {
	l := []int{0, 1, 2, 0x1f, 0x7c00, 0x7fff, 0x8000, 0xffff, 0x10000, 0x12345678, 0x7fffffff, 0x80000000, 0xdeadbeef, all32 - 1, all32}
	l = append(l, -1, -2, -0x8000, -1<<31, -1<<32, -1<<32+1, -1<<32-1, 1<<32, 1<<32+5, 1<<33-1, 0x5a5a5a5a5a5a5a5a, 1<<62, math.MaxInt, math.MinInt, math.MinInt+1)
	next := random()
	for range 40 {
		l = append(l, next(1<<32), -next(1<<32)-next(1<<30)<<32)
	}
	return l
}

// P9.1: a channel of a word, by hand.
func TestOfByHand(t *testing.T) {
	cases := []struct {
		m          Mask
		word, want int
	}{
		{Mask{10, 5}, 0x7c00, 31}, {Mask{10, 5}, 0x83ff, 0}, {Mask{10, 5}, 0x4400, 17},
		{Mask{0, 1}, 1, 1}, {Mask{0, 1}, 2, 0}, {Mask{0, 1}, 3, 1},
		{Mask{31, 1}, 0x80000000, 1}, {Mask{31, 1}, 0x7fffffff, 0}, {Mask{31, 1}, -1, 1}, {Mask{31, 1}, 1 << 32, 0},
		{Mask{0, 32}, 0x12345678, 0x12345678}, {Mask{0, 32}, -1, all32}, {Mask{0, 32}, math.MinInt, 0}, {Mask{0, 32}, 1<<32 + 7, 7},
		{Mask{24, 8}, 0x12345678, 0x12}, {Mask{16, 8}, 0x12345678, 0x34}, {Mask{4, 24}, 0x12345678, 0x234567},
		{Mask{}, 0, 0}, {Mask{}, -1, 0}, {Mask{}, all32, 0},
	}
	for _, c := range cases {
		expectOf(t, c.m, c.word, c.want)
	}
}

// P9.1: a channel of a word, bit by bit, of all places.
func TestOf(t *testing.T) {
	l := words()
	for _, m := range places(32) {
		for _, word := range l {
			want := 0
			for bit := range m.Bits {
				if one(word, m.Shift+bit) {
					want += 1 << bit
				}
			}
			expectOf(t, m, word, want)
		}
	}
}

// P9.1: the mask of a place, bit by bit; Find tells the place of it.
func TestMaskWord(t *testing.T) {
	for _, m := range places(32) {
		want := 0
		for bit := range m.Bits {
			want += 1 << (m.Shift + bit)
		}
		if got := m.Word(); got != want {
			t.Errorf("the mask of %+v is %x, not %x", m, got, want)
		}
		expectFind(t, want, 32, m, api.OK)
		if m.Shift+m.Bits <= 16 {
			expectFind(t, want, 16, m, api.OK)
		}
	}
}

// P9.1: what is no place has no bits.
func TestNoPlace(t *testing.T) {
	for _, m := range noPlaces {
		for _, word := range words() {
			expectOf(t, m, word, 0)
		}
		if got := m.Word(); got != 0 {
			t.Errorf("the mask of %+v is %x", m, got)
		}
	}
}

// P9.1: sets by hand.
func TestFourByHand(t *testing.T) {
	cases := []struct {
		masks [4]int
		width int
		want  Set
	}{
		{[4]int{0, 0, 0, 0}, 16, Set{}},
		{[4]int{0, 0, 0, 0}, 32, Set{}},
		{[4]int{0xf800, 0x7e0, 0x1f, 0}, 16, Set{R: Mask{11, 5}, G: Mask{5, 6}, B: Mask{0, 5}}},
		{[4]int{0x7c00, 0x3e0, 0x1f, 0x8000}, 16, Set{R: Mask{10, 5}, G: Mask{5, 5}, B: Mask{0, 5}, A: Mask{15, 1}}},
		{[4]int{0xf, 0xf0, 0xf00, 0xf000}, 16, Set{R: Mask{0, 4}, G: Mask{4, 4}, B: Mask{8, 4}, A: Mask{12, 4}}},
		{[4]int{0xff000000, 0xff0000, 0xff00, 0xff}, 32, Set{R: Mask{24, 8}, G: Mask{16, 8}, B: Mask{8, 8}, A: Mask{0, 8}}},
		{[4]int{0, all32, 0, 0}, 32, Set{G: Mask{0, 32}}},
		{[4]int{0, 0, 0, all32}, 32, Set{A: Mask{0, 32}}},
		{[4]int{0x80000000, 0, 1, 0x7ffffffe}, 32, Set{R: Mask{31, 1}, B: Mask{0, 1}, A: Mask{1, 30}}},
	}
	for _, c := range cases {
		m := c.masks
		if got := four(t, m[0], m[1], m[2], m[3], c.width); got != c.want {
			t.Errorf("Four(%x, %d) = %+v, not %+v", m, c.width, got, c.want)
		}
	}
}

// model is what Four answers, asked mask by mask and bit by bit.
func model(masks [4]int, width int) (Set, int, api.Errno) {
	var l [4]Mask
	for i, mask := range masks {
		switch m, ok := placeOf(mask, 32); {
		case width != 16 && width != 32:
			return Set{}, i, api.ErrArg
		case mask < 0 || mask >= 1<<width:
			return Set{}, i, api.ErrRange
		case !ok:
			return Set{}, i, api.ErrForm
		default:
			l[i] = m
		}
		for _, other := range masks[:i] {
			for bit := range width {
				if one(mask, bit) && one(other, bit) {
					return Set{}, i, api.ErrSize
				}
			}
		}
	}
	return Set{l[0], l[1], l[2], l[3]}, 0, api.OK
}

func expectFour(t *testing.T, m [4]int, width int) {
	t.Helper()
	want, wantAt, wantE := model(m, width)
	if s, at, e := Four(m[0], m[1], m[2], m[3], width); s != want || at != wantAt || e != wantE {
		t.Errorf("Four(%x, %d) = %+v, %d, %d, not %+v, %d, %d", m, width, s, at, e, want, wantAt, wantE)
	}
}

// P9.1: any four masks, right, with gaps, with bits in common, out of range: the first one that is wrong is told.
func TestFour(t *testing.T) {
	for _, width := range []int{16, 32} {
		l := []int{0, 1, 2, 3, 5, 6, 0xf0, 0x180, 0x3c00, 0x8000, 0xff00, 1 << (width - 1), 1<<width - 1, 1<<width - 2, 1 << width, 1<<width | 5, -1, math.MaxInt}
		for _, r := range l {
			for _, g := range l {
				for _, b := range l {
					for _, a := range l {
						expectFour(t, [4]int{r, g, b, a}, width)
					}
				}
			}
		}
	}
}

// P9.1: masks that were cut side by side out of a word, in any order, and some of them changed.
func TestFourCut(t *testing.T) {
	next := random()
	for range 20000 {
		width := 16 + 16*next(2)
		var m [4]int
		from, order := 0, next(4)
		for k := range m {
			n := next(width - from + 1)
			m[(k+order)%4] = (1<<n - 1) << from
			from += n
		}
		expectFour(t, m, width)
		m[next(4)] ^= 1 << next(width)
		expectFour(t, m, width)
	}
}

// P9.1: two masks with a bit in common, of each pair; the second one is wrong.
func TestFourInCommon(t *testing.T) {
	for second := 1; second < 4; second++ {
		for first := range second {
			for bit := range 32 {
				m := [4]int{}
				m[first], m[second] = 1<<bit, 1<<bit
				if s, at, e := Four(m[0], m[1], m[2], m[3], 32); s != (Set{}) || at != second || e != api.ErrSize {
					t.Errorf("%x: %+v, %d, %d", m, s, at, e)
				}
			}
		}
	}
}

// P9.1: which error is told of a mask with several, and of masks one behind the other.
func TestFourOrder(t *testing.T) {
	cases := []struct {
		masks     [4]int
		width, at int
		e         api.Errno
	}{
		{[4]int{7, 5, 0, 0}, 16, 1, api.ErrForm},             // a gap, and bits in common
		{[4]int{1, 0x10001, 0, 0}, 16, 1, api.ErrRange},      // out of range, a gap, and bits in common
		{[4]int{1, 1, 5, -1}, 16, 1, api.ErrSize},            // the first one that is wrong
		{[4]int{1, 2, 5, -1}, 16, 2, api.ErrForm},            // likewise
		{[4]int{1, 2, 4, -1}, 16, 3, api.ErrRange},           // likewise
		{[4]int{5, 1, 1, 1}, 32, 0, api.ErrForm},             // likewise
		{[4]int{1 << 32, 5, 5, 5}, 32, 0, api.ErrRange},      // likewise
		{[4]int{0xf0, 0xf, 0xf00, 0x80}, 32, 3, api.ErrSize}, // with the first one
		{[4]int{0xf0, 0xf, 0xf00, 0x1}, 32, 3, api.ErrSize},  // with the second one
		{[4]int{0xf0, 0xf, 0x1f00, 0x1000}, 32, 3, api.ErrSize},
		{[4]int{0, 0, 0, 0}, 24, 0, api.ErrArg},
		{[4]int{5, -1, 1, 1}, 0, 0, api.ErrArg},
	}
	for _, c := range cases {
		m := c.masks
		if s, at, e := Four(m[0], m[1], m[2], m[3], c.width); s != (Set{}) || at != c.at || e != c.e {
			t.Errorf("Four(%x, %d) = %+v, %d, %d, not %d, %d", m, c.width, s, at, e, c.at, c.e)
		}
	}
	for _, width := range wrongWidths {
		expectFour(t, [4]int{0x7c00, 0x3e0, 0x1f, 0}, width)
	}
}

// P9.1: colours by hand.
func TestColorByHand(t *testing.T) {
	s565 := four(t, 0xf800, 0x7e0, 0x1f, 0, 16)
	s1555 := four(t, 0x7c00, 0x3e0, 0x1f, 0x8000, 16)
	s8888 := four(t, 0xff, 0xff00, 0xff0000, 0xff000000, 32)
	green := four(t, 0, 0x3ff00, 0, 0, 32)
	alpha := four(t, 0, 0, 0, all32, 32)
	cases := []struct {
		s    Set
		word int
		want api.Color
	}{
		{s565, 0, api.Color{A: 255}},
		{s565, 0xffff, white},
		{s565, 0x8410, api.Color{R: 132, G: 130, B: 132, A: 255}},
		{s565, 0x10000, api.Color{A: 255}},
		{s565, -1, white},
		{s1555, 0, api.Color{}},
		{s1555, 0x8000, api.Color{A: 255}},
		{s1555, 0x7fff, api.Color{R: 255, G: 255, B: 255}},
		{s1555, 0x0421, api.Color{R: 8, G: 8, B: 8}},
		{s8888, 0x04030201, api.Color{R: 1, G: 2, B: 3, A: 4}},
		{s8888, 0x55_04030201, api.Color{R: 1, G: 2, B: 3, A: 4}},
		{s8888, 0x04030201 - 1<<40, api.Color{R: 1, G: 2, B: 3, A: 4}},
		{green, all32, api.Color{G: 255, A: 255}},
		{green, 0x20000, api.Color{G: 128, A: 255}},
		{alpha, 0, api.Color{}},
		{alpha, 1 << 31, api.Color{A: 128}},
		{alpha, all32, api.Color{A: 255}},
		{Set{}, all32, api.Color{A: 255}},
		{Set{}, 0, api.Color{A: 255}},
	}
	for _, c := range cases {
		expectColor(t, c.s, c.word, c.want)
	}
}

// eight is the sample v of n bits as eight bits, by numbers of any size; of no bits it is none.
func eight(v, n int, none uint8) uint8 {
	if n == 0 {
		return none
	}
	return uint8(nearest(v, 255, 1<<n-1))
}

// nearest is the number nearest to v times a, divided by b, of two as near the greater one.
func nearest(v, a, b int) int {
	n := big.NewInt(2)
	n.Mul(n, big.NewInt(int64(v))).Mul(n, big.NewInt(int64(a))).Add(n, big.NewInt(int64(b)))
	d := big.NewInt(2)
	d.Mul(d, big.NewInt(int64(b)))
	return int(n.Div(n, d).Int64())
}

// sets are such as Four tells, of any counts of bits, in any order.
func sets(t *testing.T) []Set {
	t.Helper()
	l := []Set{common(t, 16), common(t, 32), {}}
	next := random()
	for range 400 {
		width := 16 + 16*next(2)
		var m [4]int
		from, order := 0, next(4)
		for k := range m {
			from = min(from+next(3), width)
			n := next(min(width-from, 12) + 1)
			m[(k+order)%4] = (1<<n - 1) << from
			from += n
		}
		l = append(l, four(t, m[0], m[1], m[2], m[3], width))
	}
	for n := 1; n <= 32; n++ {
		mask := 1<<n - 1
		l = append(l, Set{R: Mask{0, n}}, Set{G: Mask{32 - n, n}}, four(t, 0, 0, mask, 0, 32), four(t, 0, 0, 0, all32^(1<<(32-n)-1), 32))
	}
	return l
}

// P9.1: of each channel its number as eight bits, of no bits 0, but of A 255.
func TestColor(t *testing.T) {
	l := words()
	for _, s := range sets(t) {
		for _, word := range l {
			expectColor(t, s, word, api.Color{
				R: eight(s.R.Of(word), s.R.Bits, 0),
				G: eight(s.G.Of(word), s.G.Bits, 0),
				B: eight(s.B.Of(word), s.B.Bits, 0),
				A: eight(s.A.Of(word), s.A.Bits, 255),
			})
		}
	}
}

// P9.1: words by hand.
func TestWordByHand(t *testing.T) {
	s565 := four(t, 0xf800, 0x7e0, 0x1f, 0, 16)
	s1555 := four(t, 0x7c00, 0x3e0, 0x1f, 0x8000, 16)
	s8888 := four(t, 0xff, 0xff00, 0xff0000, 0xff000000, 32)
	cases := []struct {
		s    Set
		c    api.Color
		want int
	}{
		{s565, api.Color{}, 0},
		{s565, white, 0xffff},
		{s565, api.Color{R: 4, G: 2, B: 4}, 0},            // 0.49, 0.49, 0.49
		{s565, api.Color{R: 5, G: 3, B: 5}, 0x0821},       // 0.61, 0.74, 0.61
		{s565, api.Color{R: 132, G: 130, B: 132}, 0x8410}, // 16.05, 32.1, 16.05
		{s565, api.Color{A: 255}, 0},
		{s1555, api.Color{A: 127}, 0}, // 0.498
		{s1555, api.Color{A: 128}, 0x8000},
		{s1555, api.Color{R: 255, A: 255}, 0xfc00},
		{s8888, api.Color{R: 1, G: 2, B: 3, A: 4}, 0x04030201},
		{Set{}, white, 0},
		{Set{R: Mask{0, 32}}, white, all32},
		{Set{R: Mask{0, 32}}, api.Color{R: 1}, 0x1010101},
		{Set{R: Mask{0, 32}}, api.Color{R: 254}, 0xfefefefe},
		{Set{A: Mask{16, 16}}, api.Color{A: 1}, 0x1010000},
		{Set{B: Mask{31, 1}}, api.Color{B: 128}, 0x80000000},
		{Set{B: Mask{31, 1}}, api.Color{B: 127}, 0},
	}
	for _, c := range cases {
		expectWord(t, c.s, c.c, c.want)
	}
}

// P9.1: channels have the nearest numbers, no other bits are set; all numbers of a colour's channel, in each of its channels.
func TestWord(t *testing.T) {
	for _, s := range sets(t) {
		for k := range 256 {
			v := [4]int{k, (k + 85) % 256, 255 - k, (3 * k) % 256}
			want := 0
			for i, m := range []Mask{s.R, s.G, s.B, s.A} {
				want |= nearest(v[i], 1<<m.Bits-1, 255) << m.Shift
			}
			expectWord(t, s, api.Color{R: uint8(v[0]), G: uint8(v[1]), B: uint8(v[2]), A: uint8(v[3])}, want)
		}
	}
}

// orders are all in which four things can stand.
func orders() [][4]int {
	var l [][4]int
	for a := range 4 {
		for b := range 4 {
			for c := range 4 {
				if d := 6 - a - b - c; a != b && a != c && b != c {
					l = append(l, [4]int{a, b, c, d})
				}
			}
		}
	}
	return l
}

// P9.2: the colour of the word of a colour is it, where each channel has eight bits.
func TestColorOfWord(t *testing.T) {
	for _, o := range orders() {
		var m [4]int
		for i, at := range o {
			m[i] = 0xff << (8 * at)
		}
		s := four(t, m[0], m[1], m[2], m[3], 32)
		for k := range 256 {
			c := api.Color{R: uint8(k), G: uint8(k + 1), B: uint8(7 * k), A: uint8(255 - k)}
			if got := s.Color(s.Word(c)); got != c {
				t.Errorf("%+v: %v became %v", s, c, got)
			}
		}
	}
}

// P9.2: likewise, where A has no bits and the colour's is 255, whatever place the others have.
func TestColorOfWordWithoutA(t *testing.T) {
	for from := 0; from <= 8; from++ {
		for _, o := range orders() {
			if o[3] != 3 {
				continue
			}
			s := four(t, 0xff<<(from+8*o[0]), 0xff<<(from+8*o[1]), 0xff<<(from+8*o[2]), 0, 32)
			for k := range 256 {
				c := api.Color{R: uint8(k), G: uint8(k + 1), B: uint8(7 * k), A: 255}
				if got := s.Color(s.Word(c)); got != c {
					t.Errorf("%+v: %v became %v", s, c, got)
				}
			}
		}
	}
}

// P9.1: of a set that Four doesn't tell nothing is promised, but that no call panics.
func TestSetOfNoPlaces(t *testing.T) {
	for _, m := range noPlaces {
		for _, s := range []Set{{R: m}, {G: m}, {B: m}, {A: m}, {m, m, m, m}} {
			for _, word := range []int{math.MinInt, -1, 0, all32, math.MaxInt} {
				s.Color(word)
			}
			s.Word(api.Color{})
			s.Word(white)
		}
	}
}

// P9.1: the sets of words without masks are those of the masks that the chapter names.
func TestCommon(t *testing.T) {
	if s := common(t, 16); s != four(t, 0x7c00, 0x3e0, 0x1f, 0, 16) {
		t.Errorf("of 16 bits: %+v", s)
	}
	if s := common(t, 32); s != four(t, 0xff0000, 0xff00, 0xff, 0, 32) {
		t.Errorf("of 32 bits: %+v", s)
	}
	expectColor(t, common(t, 16), 0x8000, api.Color{A: 255})
	expectColor(t, common(t, 32), 0x01020304, api.Color{R: 2, G: 3, B: 4, A: 255})
	expectWord(t, common(t, 16), white, 0x7fff)
	expectWord(t, common(t, 32), white, 0xffffff)
	for _, bits := range wrongWidths {
		if s, ok := Common(bits); s != (Set{}) || ok {
			t.Errorf("of %d bits: %+v, %t", bits, s, ok)
		}
	}
}
