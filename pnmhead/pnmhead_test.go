package pnmhead

import (
	"math"
	"strconv"
	"strings"
	"testing"

	"tintype/api"
	"tintype/ledger"
	"tintype/src"
)

// noKinds are numbers that no kind has.
var noKinds = []int{math.MinInt, -1 << 32, -256, -6, -5, -4, -3, -2, -1, 0, 7, 8, 9, 10, '1', '3', '6', 255, 256 + 3, 1<<32 + 3, 1<<32 + 5, math.MaxInt}

// noSides are numbers that no width, or height, has.
var noSides = []int{math.MinInt, -1 << 32, -16384, -8, -1, 0, 16385, 16392, 65536, 1 << 31, 1<<32 + 1, 1 << 61, 1 << 62, math.MaxInt - 6, math.MaxInt}

// noMosts are numbers that no greatest sample has.
var noMosts = []int{math.MinInt, -65535, -255, -1, 0, 65536, 65537, 1 << 32, 1<<32 + 255, 1 << 62, math.MaxInt}

// source goes over all of s, and may do so many steps.
func source(t *testing.T, steps int, s string) *src.Src {
	t.Helper()
	x, e := src.New(ledger.New(api.Budget{MaxWork: steps}), s)
	if e != api.OK {
		t.Fatalf("no source of %q: %d", s, e)
	}
	return x
}

func wrong(kind, at int) api.Fault {
	return api.Fault{Kind: kind, Format: api.PNM, At: at}
}

// expect holds a source's head against the one that it should have.
func expect(t *testing.T, s *src.Src, text string, h Head, f api.Fault) {
	t.Helper()
	got, fault := Read(s)
	if got != h || fault != f {
		t.Errorf("%q: %+v, %+v, not %+v, %+v", text, got, fault, h, f)
	}
	if f.Kind == api.NoFault && s.At() != h.At {
		t.Errorf("%q: the source is at %d, not at %d", text, s.At(), h.At)
	}
}

// read holds the head of a whole text, with steps enough.
func read(t *testing.T, text string, h Head, f api.Fault) {
	t.Helper()
	expect(t, source(t, math.MaxInt, text), text, h, f)
}

// P12.1: the chapter's example.
func TestExample(t *testing.T) {
	h := Head{Kind: 5, Width: 2, Height: 3, Most: 255, At: 11}
	read(t, "P5 2 3 255\n", h, api.Fault{})
	if n, ok := Size(h); n != 6 || !ok {
		t.Error(n, ok)
	}
}

// P12.1: heads of all kinds, with what may stand between and behind.
func TestRead(t *testing.T) {
	for _, x := range []struct {
		text string
		h    Head
	}{
		{"P1 7 9", Head{1, 7, 9, 1, 6}},
		{"P1 7 9\n1 0", Head{1, 7, 9, 1, 6}},
		{"P1 7 9x", Head{1, 7, 9, 1, 6}},
		{"P2 7 9 15", Head{2, 7, 9, 15, 9}},
		{"P2 7 9 15 1", Head{2, 7, 9, 15, 9}},
		{"P3 7 9 65535#", Head{3, 7, 9, 65535, 12}},
		{"P4 7 9 ", Head{4, 7, 9, 1, 7}},
		{"P4 7 9\n\n\n", Head{4, 7, 9, 1, 7}},
		{"P4 7 9\v1", Head{4, 7, 9, 1, 7}},
		{"P5 7 9 1\t#", Head{5, 7, 9, 1, 9}},
		{"P5 7 9 256\fx", Head{5, 7, 9, 256, 11}},
		{"P6 7 9 255\r\n", Head{6, 7, 9, 255, 11}},
		{"P6 16384 16384 65535 ", Head{6, 16384, 16384, 65535, 21}},
		{"P6 1 1 1 ", Head{6, 1, 1, 1, 9}},
		{"P17 9", Head{1, 7, 9, 1, 5}},
		{"P2#a\n7#b\r9#c\n\r15#d", Head{2, 7, 9, 15, 16}},
		{"P5\n# by hand\n007 # wide\n 09\n# high\n0255\n", Head{5, 7, 9, 255, 40}},
	} {
		read(t, x.text, x.h, api.Fault{})
	}
}

// P12.1: all greatest samples, and sides, that a head may have, and those about their bounds.
func TestNumbers(t *testing.T) {
	for n := range 70000 {
		d := strconv.Itoa(n)
		text := "P5 1 1 " + d + " "
		if n >= 1 && n <= 65535 {
			read(t, text, Head{5, 1, 1, n, len(text)}, api.Fault{})
		} else {
			read(t, text, Head{}, wrong(api.Malformed, 7))
		}
		wide, high := "P4 "+d+" 1 ", "P4 1 "+d+" "
		switch {
		case n == 0:
			read(t, wide, Head{}, wrong(api.Malformed, 3))
			read(t, high, Head{}, wrong(api.Malformed, 5))
		case n > 16384:
			read(t, wide, Head{}, wrong(api.Unsupported, 3))
			read(t, high, Head{}, wrong(api.Unsupported, 5))
		default:
			read(t, wide, Head{4, n, 1, 1, len(wide)}, api.Fault{})
			read(t, high, Head{4, 1, n, 1, len(high)}, api.Fault{})
		}
	}
	for _, d := range []string{"999999999", "1000000000", "4294967297", "18446744073709551617", strings.Repeat("9", 100)} {
		read(t, "P3 "+d, Head{}, wrong(api.Unsupported, 3))
		read(t, "P3 1 "+d, Head{}, wrong(api.Unsupported, 5))
		read(t, "P3 1 1 "+d, Head{}, wrong(api.Malformed, 7))
	}
}

// P12.1: what is wrong, and where.
func TestWrong(t *testing.T) {
	for _, x := range []struct {
		text string
		f    api.Fault
	}{
		{"", wrong(api.Truncated, 0)},
		{"P", wrong(api.Truncated, 1)},
		{"Q5 1 1 1 ", wrong(api.Malformed, 0)},
		{"p5 1 1 1 ", wrong(api.Malformed, 0)},
		{" P5 1 1 1 ", wrong(api.Malformed, 0)},
		{"Q", wrong(api.Malformed, 0)},
		{"P0 1 1 1 ", wrong(api.Malformed, 1)},
		{"P7 1 1 1 ", wrong(api.Malformed, 1)},
		{"P 5 1 1 1 ", wrong(api.Malformed, 1)},
		{"P\x05 1 1 1 ", wrong(api.Malformed, 1)},
		{"P/", wrong(api.Malformed, 1)},
		{"Pf 1 1 1 ", wrong(api.Malformed, 1)},
		{"P5", wrong(api.Truncated, 2)},
		{"P5 ", wrong(api.Truncated, 3)},
		{"P5 #1", wrong(api.Truncated, 5)},
		{"P5 x", wrong(api.Malformed, 3)},
		{"P5x1 1 1 ", wrong(api.Malformed, 2)},
		{"P5 -1", wrong(api.Malformed, 3)},
		{"P5 1", wrong(api.Truncated, 4)},
		{"P5 1x", wrong(api.Malformed, 4)},
		{"P5 1 ", wrong(api.Truncated, 5)},
		{"P5 1 1", wrong(api.Truncated, 6)},
		{"P5 1 1x", wrong(api.Malformed, 6)},
		{"P5 1 1 ", wrong(api.Truncated, 7)},
		{"P5 1 1 x", wrong(api.Malformed, 7)},
		{"P5 1 1 1", wrong(api.Truncated, 8)},
		{"P5 1 1 1x", wrong(api.Malformed, 8)},
		{"P5 1 1 1# \n", wrong(api.Malformed, 8)},
		{"P6 1 1 9", wrong(api.Truncated, 8)},
		{"P6 1 1 9/", wrong(api.Malformed, 8)},
		{"P4 1 1", wrong(api.Truncated, 6)},
		{"P4 1 1#\n", wrong(api.Malformed, 6)},
		{"P4 1 1.", wrong(api.Malformed, 6)},
		{"P1 1", wrong(api.Truncated, 4)},
		{"P2 1 1", wrong(api.Truncated, 6)},
		{"P3 1 1 ", wrong(api.Truncated, 7)},
	} {
		read(t, x.text, Head{}, x.f)
	}
}

// P12.1: of several things that are wrong the one ahead is told.
func TestOrder(t *testing.T) {
	for _, x := range []struct {
		text string
		f    api.Fault
	}{
		{"Q9 0 0 0", wrong(api.Malformed, 0)},
		{"P9 0 0 0", wrong(api.Malformed, 1)},
		{"P5 0 0 0x", wrong(api.Malformed, 3)},
		{"P5 0 16385 0", wrong(api.Malformed, 3)},
		{"P5 0", wrong(api.Malformed, 3)},
		{"P5 0x", wrong(api.Malformed, 3)},
		{"P5 16385", wrong(api.Unsupported, 3)},
		{"P5 16385 0 0", wrong(api.Unsupported, 3)},
		{"P5 16385x", wrong(api.Unsupported, 3)},
		{"P5 1 0 0", wrong(api.Malformed, 5)},
		{"P5 1 0", wrong(api.Malformed, 5)},
		{"P5 1 16385 65536", wrong(api.Unsupported, 5)},
		{"P5 1 16385", wrong(api.Unsupported, 5)},
		{"P5 1 1 0", wrong(api.Malformed, 7)},
		{"P5 1 1 65536x", wrong(api.Malformed, 7)},
		{"P5 #\n#\n 16385 ", wrong(api.Unsupported, 8)},
		{"P1 0 0", wrong(api.Malformed, 3)},
		{"P4 1 16385x", wrong(api.Unsupported, 5)},
	} {
		read(t, x.text, Head{}, x.f)
	}
}

// P12.1: a head is read from the source's place on, within what it goes over; its places are those of the whole text.
func TestPlace(t *testing.T) {
	text := "P6P4 1 2 P2 3 4 5 6"
	s := source(t, math.MaxInt, text)
	s.Seek(2)
	expect(t, s, text, Head{4, 1, 2, 1, 9}, api.Fault{})
	expect(t, s, text, Head{2, 3, 4, 5, 17}, api.Fault{})
	expect(t, s, text, Head{}, wrong(api.Malformed, 17))
	for _, x := range []struct {
		from, n int
		h       Head
		f       api.Fault
	}{
		{2, 7, Head{4, 1, 2, 1, 9}, api.Fault{}},
		{2, 6, Head{}, wrong(api.Truncated, 8)},
		{2, 1, Head{}, wrong(api.Truncated, 3)},
		{2, 0, Head{}, wrong(api.Truncated, 2)},
		{9, 8, Head{2, 3, 4, 5, 17}, api.Fault{}},
		{9, 7, Head{}, wrong(api.Truncated, 16)},
		{3, 9, Head{}, wrong(api.Malformed, 3)},
	} {
		w, ok := source(t, math.MaxInt, text).Window(x.from, x.n)
		if !ok {
			t.Fatal(x)
		}
		expect(t, w, text, x.h, x.f)
	}
}

// model is a head by the chapter's words, told of a whole text.
type model struct {
	text string
	at   int
	f    api.Fault
}

// byteOf reads a byte of those that may stand here.
func (m *model) byteOf(these string) byte {
	switch {
	case m.f.Kind != api.NoFault:
		return 0
	case m.at == len(m.text):
		m.f = wrong(api.Truncated, m.at)
		return 0
	case strings.IndexByte(these, m.text[m.at]) < 0:
		m.f = wrong(api.Malformed, m.at)
		return 0
	}
	m.at++
	return m.text[m.at-1]
}

// number reads one up to most, above which it is wrong as kind says.
func (m *model) number(most, kind int) int {
	for m.at < len(m.text) && strings.IndexByte("# \n\t\v\f\r", m.text[m.at]) >= 0 {
		remark := m.text[m.at] == '#'
		m.at++
		for remark && m.at < len(m.text) {
			remark = m.text[m.at] != '\n' && m.text[m.at] != '\r'
			m.at++
		}
	}
	first := m.at
	m.byteOf("0123456789")
	if m.f.Kind != api.NoFault {
		return 0
	}
	for m.at < len(m.text) && strings.IndexByte("0123456789", m.text[m.at]) >= 0 {
		m.at++
	}
	v, e := strconv.Atoi(m.text[first:m.at])
	switch {
	case e != nil || v > most:
		m.f = wrong(kind, first)
	case v == 0:
		m.f = wrong(api.Malformed, first)
	}
	return v
}

func (m *model) head() (Head, api.Fault) {
	m.byteOf("P")
	h := Head{Most: 1}
	h.Kind = int(m.byteOf("123456")) - '0'
	h.Width = m.numberIf(true, 16384, api.Unsupported)
	h.Height = m.numberIf(true, 16384, api.Unsupported)
	if most := m.numberIf(h.Kind != 1 && h.Kind != 4, 65535, api.Malformed); most > 0 {
		h.Most = most
	}
	if h.Kind > 3 {
		m.byteOf(" \n\t\v\f\r")
	}
	h.At = m.at
	if m.f.Kind != api.NoFault {
		h = Head{}
	}
	return h, m.f
}

func (m *model) numberIf(there bool, most, kind int) int {
	if !there || m.f.Kind != api.NoFault {
		return 0
	}
	return m.number(most, kind)
}

// held holds a text's head against the model's, and with fewer steps, too: it is the same then, or Spent.
func held(t *testing.T, text string) {
	t.Helper()
	m := model{text: text}
	h, f := m.head()
	read(t, text, h, f)
	told := false
	for steps := range len(text) + 9 {
		s := source(t, steps, text)
		got, fault := Read(s)
		switch {
		case got == h && fault == f:
			told = true
		case told || got != Head{} || fault != wrong(api.Spent, s.At()) || !s.Ledger().Broken():
			t.Errorf("%q by %d steps: %+v, %+v, not %+v, %+v", text, steps, got, fault, h, f)
		}
	}
	if !told {
		t.Errorf("%q isn't told by %d steps", text, len(text)+8)
	}
}

// P12.1: heads of all kinds, with any pieces where their numbers stand, as far as they go, cut off anywhere.
func TestModel(t *testing.T) {
	pieces := []string{"", " ", "1", " 3", "\n17\r", " 0", " #1\n2", "#", " 16384 ", "\t16385", " 65535\n", " 65536 ", " x", "1000000000000000000000 "}
	for kind := range 9 {
		head := "P" + strconv.Itoa(kind)
		for _, a := range pieces {
			for _, b := range pieces {
				for _, c := range pieces {
					for _, tail := range []string{"", " ", "\n\n", "x", "#\n"} {
						held(t, head+a+b+c+tail)
					}
				}
			}
		}
		whole := head + " 12#x\n345\r6789 \n"
		for n := range whole {
			held(t, whole[:n])
		}
		held(t, whole)
	}
}

// P12.1: each byte of a head, changed to any other.
func TestChanged(t *testing.T) {
	for _, text := range []string{"P1 1 2 ", "P2 1 2 3 ", "P3#\n1 2 3 ", "P4 1 2 ", "P5 1 2 3 ", "P6 1 2 3#\n"} {
		for i := range len(text) {
			for b := range 256 {
				held(t, text[:i]+string([]byte{byte(b)})+text[i+1:])
			}
		}
	}
}

// P12.1: a refused step is told where it was refused, beside no head.
func TestSpent(t *testing.T) {
	for steps := range 11 {
		s := source(t, steps, "P5 2 3 255\n")
		if h, f := Read(s); h != (Head{}) || f.Kind != api.Spent || f.Format != api.PNM || f.At != s.At() {
			t.Errorf("%d steps: %+v, %+v", steps, h, f)
		}
	}
	for steps, at := range []int{0, 1} {
		expect(t, source(t, steps, "P5 2 3 255\n"), "P5", Head{}, wrong(api.Spent, at))
		expect(t, source(t, steps, "P5"[:steps]), "nothing more", Head{}, wrong(api.Spent, at))
	}
}

// P12.1: the first bytes take one reading each.
func TestFirstReadings(t *testing.T) {
	for _, x := range []struct {
		text  string
		steps int
	}{{"", 1}, {"Q", 1}, {"P", 2}, {"P0", 2}, {"PP", 2}} {
		s := source(t, math.MaxInt, x.text)
		Read(s)
		if s.Ledger().Steps() != x.steps {
			t.Errorf("%q: %d readings", x.text, s.Ledger().Steps())
		}
	}
}

// P12.1: which kinds are text, and which have colours.
func TestKinds(t *testing.T) {
	for kind, x := range []struct{ text, colors bool }{{}, {true, false}, {true, false}, {true, true}, {false, false}, {false, false}, {false, true}} {
		if Text(kind) != x.text || Colors(kind) != x.colors {
			t.Errorf("%d: %t, %t", kind, Text(kind), Colors(kind))
		}
	}
	for _, kind := range noKinds {
		if Text(kind) || Colors(kind) {
			t.Errorf("%d: %t, %t", kind, Text(kind), Colors(kind))
		}
	}
}

func size(t *testing.T, h Head, want int, there bool) {
	t.Helper()
	if n, ok := Size(h); n != want || ok != there {
		t.Errorf("%+v: %d, %t, not %d, %t", h, n, ok, want, there)
	}
}

// P12.1: the bytes of all pixels: bits in rows of whole bytes, samples of one byte or two.
func TestSize(t *testing.T) {
	row := 0
	for w := 1; w <= api.MaxSide; w++ {
		if w%8 == 1 {
			row++
		}
		for _, h := range []int{1, 2, 3, 7, 8, 9, 1000, 16383, 16384} {
			size(t, Head{Kind: 4, Width: w, Height: h, Most: 1}, row*h, true)
			size(t, Head{Kind: 5, Width: w, Height: h, Most: 255}, w*h, true)
			size(t, Head{Kind: 5, Width: w, Height: h, Most: 256}, w*h*2, true)
			size(t, Head{Kind: 6, Width: w, Height: h, Most: 255}, w*h*3, true)
			size(t, Head{Kind: 6, Width: w, Height: h, Most: 256}, w*h*6, true)
		}
	}
	for most := 1; most <= api.MaxSample; most++ {
		wide := 1
		if most > 255 {
			wide = 2
		}
		size(t, Head{Kind: 4, Width: 9, Height: 5, Most: most, At: most}, 10, true)
		size(t, Head{Kind: 5, Width: 9, Height: 5, Most: most, At: -most}, 45*wide, true)
		size(t, Head{Kind: 6, Width: 9, Height: 5, Most: most}, 135*wide, true)
	}
	for _, at := range []int{math.MinInt, -1, 7, math.MaxInt} {
		size(t, Head{Kind: 6, Width: 16384, Height: 16384, Most: 65535, At: at}, 6<<28, true)
	}
}

// P12.1: of a kind, a side or a greatest sample that there isn't there is no size.
func TestNoSize(t *testing.T) {
	for _, kind := range append(noKinds, 1, 2, 3) {
		size(t, Head{Kind: kind, Width: 2, Height: 3, Most: 255}, 0, false)
	}
	for kind := range 7 {
		for _, n := range noSides {
			size(t, Head{Kind: kind, Width: n, Height: 3, Most: 1}, 0, false)
			size(t, Head{Kind: kind, Width: 2, Height: n, Most: 1}, 0, false)
			size(t, Head{Kind: kind, Width: n, Height: n, Most: 1}, 0, false)
		}
		for _, n := range noMosts {
			size(t, Head{Kind: kind, Width: 2, Height: 3, Most: n}, 0, false)
		}
	}
	size(t, Head{}, 0, false)
}

// P12.1: a size is that of the head that was read.
func TestSizeOfRead(t *testing.T) {
	for text, want := range map[string]int{"P4 17 3\n": 9, "P5 17 3 1\n": 51, "P5 17 3 65535\n": 102, "P6 17 3 255\n": 153, "P6 17 3 300\n": 306} {
		h, f := Read(source(t, math.MaxInt, text))
		if f.Kind != api.NoFault {
			t.Error(text, f)
		}
		size(t, h, want, true)
	}
}

// P12.1: all texts of three bytes; what stands behind them isn't looked at, and fewer are none.
func TestIs(t *testing.T) {
	text := []byte{0, 0, 0, 0}
	for first := range 256 {
		for second := range 256 {
			for third := range 256 {
				text[0], text[1], text[2] = byte(first), byte(second), byte(third)
				want := first == 'P' && strings.IndexByte("123456", byte(second)) >= 0 && strings.IndexByte(" \t\n\v\f\r#", byte(third)) >= 0
				if first != 'P' && first%16 != 0 && second%5 != 0 {
					continue // some of those without a P are enough
				}
				if Is(string(text)) != want || Is(string(text[:3])) != want {
					t.Fatalf("%q: not %t", text, want)
				}
			}
		}
	}
	for _, s := range []string{"", "P", "P5", "5 ", " P5 ", "PP5 "} {
		if Is(s) {
			t.Errorf("%q is one", s)
		}
	}
	for _, s := range []string{"P1 ", "P6#", "P3\r\n1 1 255", "P5 x"} {
		if !Is(s) {
			t.Errorf("%q is none", s)
		}
	}
}
