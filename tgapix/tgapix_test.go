package tgapix

import (
	"math"
	"slices"
	"strings"
	"testing"

	"tintype/api"
	"tintype/ledger"
	"tintype/palette"
	"tintype/src"
	"tintype/tgahead"
)

// Types of pixels, each without packets and with them.
var (
	mappedTypes = []int{1, 9}
	colorTypes  = []int{2, 10}
	greyTypes   = []int{3, 11}
	otherTypes  = slices.Concat(colorTypes, greyTypes)
)

// noBits are numbers of bits that no colour has.
var noBits = []int{math.MinInt, -32, -24, -16, -15, -1, 0, 1, 2, 3, 4, 5, 8, 14, 17, 23, 25, 31, 33, 48, 64, 255, 256 + 16, 1<<32 + 24, math.MaxInt}

// oddAlphas are numbers of bits of alpha that no head has, but of some bits.
var oddAlphas = []int{math.MinInt, -8, -1, 2, 3, 7, 9, 15, 16, 255, 1<<32 + 1, math.MaxInt}

// random tells numbers below n, of a seed of its own.
func random() func(n int) int {
	seed := uint64(1)
	return func(n int) int {
		seed = seed*6364136223846793005 + 1442695040888963407
		return int(seed>>31) % n
	}
}

func budget(bytes, steps int) *ledger.Ledger {
	return ledger.New(api.Budget{MaxBytes: bytes, MaxWork: steps})
}

// free is a ledger that lets everything.
func free() *ledger.Ledger { return budget(math.MaxInt, math.MaxInt) }

func source(t *testing.T, l *ledger.Ledger, s string) *src.Src {
	t.Helper()
	x, e := src.New(l, s)
	if e != api.OK {
		t.Fatalf("no source of %q: %d", s, e)
	}
	return x
}

func wrong(kind, at int) api.Fault {
	return api.Fault{Kind: kind, Format: api.TGA, At: at}
}

// run is so many bytes, none like those beside it.
func run(n int) string {
	b := make([]byte, n)
	for i := range b {
		b[i] = byte(37*i + i/256 + 11)
	}
	return string(b)
}

// head is one of layer 16's of a type, of 24 bits, or 8.
func head(kind int) tgahead.Head {
	h := tgahead.Head{Type: kind, Width: 3, Height: 2, Depth: 8}
	if kind == 2 || kind == 10 {
		h.Depth = 24
	}
	return h
}

// withMap is a head with a map of n entries of so many bits.
func withMap(kind, name, first, n, bits int) tgahead.Head {
	h := head(kind)
	h.Name, h.Map, h.First, h.Count, h.Entry = name, true, first, n, bits
	return h
}

// entryBytes is how many bytes an entry of so many bits has.
func entryBytes(bits int) int { return (bits + 7) / 8 }

// fifth is five bits as eight: the nearest of all numbers.
func fifth(v int) uint8 {
	best, least := 0, math.MaxInt
	for k := range 256 {
		if far := max(31*k-255*v, 255*v-31*k); far <= least {
			best, least = k, far
		}
	}
	return uint8(best)
}

// fifths are all samples of five bits as eight.
var fifths = func() (l [32]uint8) {
	for v := range l {
		l[v] = fifth(v)
	}
	return l
}()

// meant is the colour of bytes by the chapter's words; s has as many as there must be.
func meant(s string, bits, alpha int) api.Color {
	switch bits {
	case 15, 16:
		word := int(s[0]) + 256*int(s[1])
		c := api.Color{R: fifths[word/1024%32], G: fifths[word/32%32], B: fifths[word%32], A: 255}
		if bits == 16 && alpha == 1 && word < 32768 {
			c.A = 0
		}
		return c
	case 24:
		return api.Color{R: s[2], G: s[1], B: s[0], A: 255}
	}
	c := api.Color{R: s[2], G: s[1], B: s[0], A: s[3]}
	if alpha == 0 {
		c.A = 255
	}
	return c
}

// expectMap holds what Map tells of a source against the entries that it should, nil: no palette, or the fault; and the ledger's bytes.
func expectMap(t *testing.T, s *src.Src, h tgahead.Head, want []api.Color, f api.Fault) *palette.Palette {
	t.Helper()
	bytes := s.Ledger().Bytes()
	p, g := Map(s, h)
	if g != f || (p != nil) != (want != nil) {
		t.Fatalf("%+v: %v, %+v, not %+v", h, p, g, f)
	}
	if got := s.Ledger().Bytes() - bytes; got != 4*len(want) {
		t.Errorf("%+v: %d bytes are kept", h, got)
	}
	if p == nil {
		return p
	}
	if p.Len() != len(want) {
		t.Fatalf("%+v: %d entries, not %d", h, p.Len(), len(want))
	}
	for i, c := range want {
		if got, ok := p.Of(i); got != c || !ok {
			t.Fatalf("%+v: entry %d is %v, %t, not %v", h, i, got, ok, c)
		}
	}
	return p
}

// expectAt holds a source's place, and its steps.
func expectAt(t *testing.T, s *src.Src, at, steps int) {
	t.Helper()
	if s.At() != at || s.Ledger().Steps() != steps {
		t.Errorf("at %d, behind %d steps, not at %d, behind %d", s.At(), s.Ledger().Steps(), at, steps)
	}
}

// entriesOf are the colours of a map's bytes; a map's entries have no alpha but those of 32 bits.
func entriesOf(s string, n, bits int) []api.Color {
	l := []api.Color{}
	for i := range n {
		l = append(l, meant(s[i*entryBytes(bits):], bits, bits/32*8))
	}
	return l
}

// P17.1: the chapter's examples.
func TestExample(t *testing.T) {
	black := api.Color{A: 255}
	expectColor(t, "\x00\x80", 16, 1, black)
	expectColor(t, "\x00\x80", 16, 0, black)
	expectColor(t, "\x00\x00", 16, 0, black)
	expectColor(t, "\x00\x00", 16, 1, api.Color{})
}

// P17.1: without a map only the name is gone over, by one reading, however long it is.
func TestName(t *testing.T) {
	for _, kind := range otherTypes {
		for n := range 256 {
			h := head(kind)
			h.Name = n
			s := source(t, budget(0, 1), run(300))
			s.Seek(7)
			expectMap(t, s, h, nil, api.Fault{})
			expectAt(t, s, 7+n, 1)
			s = source(t, budget(0, 1), run(n))
			expectMap(t, s, h, nil, api.Fault{})
			expectAt(t, s, n, 1)
			if n > 0 {
				expectMap(t, source(t, free(), run(n-1)), h, nil, wrong(api.Truncated, n-1))
			}
			s = source(t, budget(0, 0), run(n))
			expectMap(t, s, h, nil, wrong(api.Spent, 0))
		}
	}
}

// P17.1: a map of other types isn't looked at: one reading more.
func TestMapOver(t *testing.T) {
	for _, kind := range otherTypes {
		for _, bits := range []int{15, 16, 24, 32} {
			for _, n := range []int{1, 2, 256, 65535} {
				for _, name := range []int{0, 5, 255} {
					h, size := withMap(kind, name, 9, n, bits), n*entryBytes(bits)
					s := source(t, budget(0, 2), run(name+size+3))
					expectMap(t, s, h, nil, api.Fault{})
					expectAt(t, s, name+size, 2)
					s = source(t, budget(0, 2), run(name+size-1))
					expectMap(t, s, h, nil, wrong(api.Truncated, name+size-1))
					s = source(t, budget(0, 1), run(name+size))
					expectMap(t, s, h, nil, wrong(api.Spent, name))
					s = source(t, budget(0, 0), run(name+size))
					expectMap(t, s, h, nil, wrong(api.Spent, 0))
				}
			}
		}
	}
}

// P17.1: a map of the types 1 and 9: its entries, each one reading, behind the name; what stands behind isn't read.
func TestMap(t *testing.T) {
	for _, kind := range mappedTypes {
		for _, bits := range []int{15, 16, 24, 32} {
			for _, n := range []int{1, 2, 3, 255, 256, 257, 4000, 65535} {
				for _, name := range []int{0, 1, 255} {
					h, size := withMap(kind, name, n%7, n, bits), n*entryBytes(bits)
					s := run(name + size + 5)
					x := source(t, budget(4*n, n+1), s)
					p := expectMap(t, x, h, entriesOf(s[name:], n, bits), api.Fault{})
					expectAt(t, x, name+size, n+1)
					if p.Add(api.Color{}) {
						t.Errorf("%+v: there is room for more", h)
					}
					if !p.Free() || x.Ledger().Bytes() != 0 || x.Ledger().Peak() != 4*n {
						t.Errorf("%+v: %d bytes, peak %d", h, x.Ledger().Bytes(), x.Ledger().Peak())
					}
				}
			}
		}
	}
}

// P17.1: all entries of two bytes, whose highest bit isn't looked at, whether they have 15 bits or 16.
func TestMapOfTwo(t *testing.T) {
	for _, bits := range []int{15, 16} {
		for half := range 2 {
			var b []byte
			for v := range 32768 {
				b = append(b, byte(v), byte(v>>8+128*half))
			}
			s := string(b)
			expectMap(t, source(t, free(), s), withMap(1, 0, 0, 32768, bits), entriesOf(s, 32768, bits), api.Fault{})
		}
	}
}

// P17.1: a name or a map that is cut off is Truncated at the end; no bytes are kept.
func TestMapShort(t *testing.T) {
	for _, kind := range mappedTypes {
		for _, bits := range []int{15, 16, 24, 32} {
			h := withMap(kind, 5, 0, 4, bits)
			s := run(5 + 4*entryBytes(bits))
			for n := range s {
				l := free()
				l.Take(3)
				expectMap(t, source(t, l, s[:n]), h, nil, wrong(api.Truncated, n))
				w, ok := source(t, free(), "ab"+s).Window(2, n)
				if !ok {
					t.Fatal(n)
				}
				expectMap(t, w, h, nil, wrong(api.Truncated, 2+n))
			}
			w, _ := source(t, free(), "ab"+s+"cd").Window(2, len(s))
			expectMap(t, w, h, entriesOf(s[5:], 4, bits), api.Fault{})
			if w.At() != 2+len(s) {
				t.Error(w.At())
			}
		}
	}
}

// P17.1: fewer steps than the readings are Spent, at the source's place; no bytes are kept.
func TestMapSteps(t *testing.T) {
	for _, bits := range []int{15, 16, 24, 32} {
		h := withMap(9, 5, 0, 4, bits)
		s := run(5 + 4*entryBytes(bits))
		for steps := range 5 {
			at := 0
			if steps > 0 {
				at = 5 + (steps-1)*entryBytes(bits)
			}
			x := source(t, budget(100, steps), s)
			expectMap(t, x, h, nil, wrong(api.Spent, at))
			expectAt(t, x, at, steps)
		}
		expectMap(t, source(t, budget(100, 5), s), h, entriesOf(s[5:], 4, bits), api.Fault{})
	}
}

// P17.1: a ledger that doesn't let four bytes for each entry is Spent behind the name; those that are kept ahead stay.
func TestMapBytes(t *testing.T) {
	for _, kind := range mappedTypes {
		for _, n := range []int{1, 4, 65535} {
			h := withMap(kind, 5, 0, n, 24)
			s := run(5 + 3*n)
			for _, bytes := range []int{-1, 0, 3, 4*n - 1} {
				x := source(t, budget(bytes, math.MaxInt), s)
				expectMap(t, x, h, nil, wrong(api.Spent, 5))
				expectAt(t, x, 5, 1)
				if first, _ := x.Ledger().First(); first != (ledger.Refusal{Reason: ledger.Bytes, Asked: 4 * n}) || x.Ledger().Peak() != 0 {
					t.Errorf("%+v, peak %d", first, x.Ledger().Peak())
				}
			}
			l := budget(4*n+9, math.MaxInt)
			l.Take(10)
			expectMap(t, source(t, l, s), h, nil, wrong(api.Spent, 5))
			l = budget(4*n+10, math.MaxInt)
			l.Take(10)
			expectMap(t, source(t, l, s), h, entriesOf(s[5:], n, 24), api.Fault{})
		}
	}
}

// P17.1: of a name that isn't there the ledger isn't asked for bytes; of entries that aren't there it is, ahead of them.
func TestMapOrder(t *testing.T) {
	h := withMap(1, 5, 0, 4, 24)
	x := source(t, budget(0, 9), "abcd")
	expectMap(t, x, h, nil, wrong(api.Truncated, 4))
	if x.Ledger().Broken() {
		t.Error("the ledger was asked")
	}
	expectMap(t, source(t, budget(0, 9), "abcdef"), h, nil, wrong(api.Spent, 5))
	expectMap(t, source(t, budget(99, 9), "abcdef"), h, nil, wrong(api.Truncated, 6))
	x = source(t, budget(99, 9), run(99))
	x.Ledger().Take(100)
	expectMap(t, x, h, nil, wrong(api.Spent, 0))
}

// expectPixel holds the pixel that stands next against the one that it should be.
func expectPixel(t *testing.T, s *src.Src, h tgahead.Head, p *palette.Palette, c api.Color, f api.Fault) {
	t.Helper()
	at, steps, size := s.At(), s.Ledger().Steps(), 1
	if h.Type == 2 || h.Type == 10 {
		size = entryBytes(h.Depth)
	}
	if got, g := Pixel(s, h, p); got != c || g != f {
		t.Fatalf("%+v at %d: %v, %+v, not %v, %+v", h, at, got, g, c, f)
	}
	if f.Kind == api.NoFault {
		expectAt(t, s, at+size, steps+1)
	}
}

// P17.1: pixels of colours, one behind the other, of all bits, with and without alpha, whatever the palette is.
func TestPixelOfColors(t *testing.T) {
	p, _ := palette.New(free(), 256)
	for _, kind := range colorTypes {
		for _, bits := range []int{15, 16, 24, 32} {
			for _, alpha := range []int{0, 1, 8} {
				h := head(kind)
				h.Depth, h.Alpha = bits, alpha
				size := entryBytes(bits)
				s := run(300*size + 1)
				x := source(t, budget(0, 300), s)
				x.Seek(1)
				for i := range 300 {
					expectPixel(t, x, h, []*palette.Palette{nil, p}[i%2], meant(s[1+i*size:], bits, alpha), api.Fault{})
				}
				for n := range size {
					expectPixel(t, source(t, free(), s[:n]), h, nil, api.Color{}, wrong(api.Truncated, n))
				}
				x.Seek(3)
				expectPixel(t, x, h, nil, api.Color{}, wrong(api.Spent, 3))
			}
		}
	}
}

// P17.1: grey pixels, a byte each.
func TestPixelOfGrey(t *testing.T) {
	for _, kind := range greyTypes {
		h := head(kind)
		for v := range 256 {
			b := byte(v)
			x := source(t, budget(0, 1), string([]byte{9, b, 7}))
			x.Seek(1)
			expectPixel(t, x, h, nil, api.Color{R: b, G: b, B: b, A: 255}, api.Fault{})
			expectPixel(t, x, h, nil, api.Color{}, wrong(api.Spent, 2))
		}
		expectPixel(t, source(t, free(), ""), h, nil, api.Color{}, wrong(api.Truncated, 0))
	}
}

// P17.1: numbers of entries, of which the first has the number First; of any other it is Malformed, at the byte.
func TestPixelOfMap(t *testing.T) {
	for _, kind := range mappedTypes {
		for _, first := range []int{0, 1, 2, 100, 254, 255, 256, 65535} {
			for _, n := range []int{1, 2, 100, 255, 256, 300} {
				h := withMap(kind, 0, first, n, 24)
				s := run(3 * n)
				p := expectMap(t, source(t, free(), s), h, entriesOf(s, n, 24), api.Fault{})
				for v := range 256 {
					x := source(t, budget(0, 1), string([]byte{7, byte(v), 0}))
					x.Seek(1)
					if v < first || v >= first+n {
						expectPixel(t, x, h, p, api.Color{}, wrong(api.Malformed, 1))
						if x.Ledger().Steps() != 1 {
							t.Error(x.Ledger().Steps())
						}
						continue
					}
					expectPixel(t, x, h, p, meant(s[3*(v-first):], 24, 0), api.Fault{})
				}
				expectPixel(t, source(t, free(), ""), h, p, api.Color{}, wrong(api.Truncated, 0))
				expectPixel(t, source(t, budget(0, 0), "a"), h, p, api.Color{}, wrong(api.Spent, 0))
				expectPixel(t, source(t, budget(0, 0), ""), h, p, api.Color{}, wrong(api.Spent, 0))
			}
		}
	}
}

// P17.1: what an entry's alpha is a pixel's is, too.
func TestPixelOfFullMap(t *testing.T) {
	h := withMap(9, 2, 10, 2, 32)
	x := source(t, free(), "ab\x01\x02\x03\x04\x05\x06\x07\x00\x0b\x0a\x0c\x09")
	p := expectMap(t, x, h, []api.Color{{R: 3, G: 2, B: 1, A: 4}, {R: 7, G: 6, B: 5}}, api.Fault{})
	expectPixel(t, x, h, p, api.Color{R: 7, G: 6, B: 5}, api.Fault{})
	expectPixel(t, x, h, p, api.Color{R: 3, G: 2, B: 1, A: 4}, api.Fault{})
	expectPixel(t, x, h, p, api.Color{}, wrong(api.Malformed, 12))
	x.Seek(13)
	expectPixel(t, x, h, p, api.Color{}, wrong(api.Malformed, 13))
}

// P17.1: places are those of the whole text, also in a window.
func TestPixelPlace(t *testing.T) {
	h := head(10)
	w, _ := source(t, free(), "abcdefghij").Window(2, 5)
	expectPixel(t, w, h, nil, api.Color{R: 'e', G: 'd', B: 'c', A: 255}, api.Fault{})
	expectPixel(t, w, h, nil, api.Color{}, wrong(api.Truncated, 7))
	h = withMap(1, 0, 'c', 1, 24)
	p := expectMap(t, source(t, free(), "xyz"), h, []api.Color{{R: 'z', G: 'y', B: 'x', A: 255}}, api.Fault{})
	w, _ = source(t, free(), "abcdefghij").Window(2, 2)
	expectPixel(t, w, h, p, api.Color{R: 'z', G: 'y', B: 'x', A: 255}, api.Fault{})
	expectPixel(t, w, h, p, api.Color{}, wrong(api.Malformed, 3))
}

func expectColor(t *testing.T, s string, bits, alpha int, want api.Color) {
	t.Helper()
	if c, ok := Color(s, bits, alpha); c != want || !ok {
		t.Errorf("%q of %d bits, %d of alpha: %v, %t, not %v", s, bits, alpha, c, ok, want)
	}
}

func expectNoColor(t *testing.T, s string, bits, alpha int) {
	t.Helper()
	if c, ok := Color(s, bits, alpha); c != (api.Color{}) || ok {
		t.Errorf("%q of %d bits, %d of alpha: %v, %t", s, bits, alpha, c, ok)
	}
}

// P17.1: all two bytes, of 15 and 16 bits; only one bit of alpha, of 16, is looked at.
func TestColorOfTwo(t *testing.T) {
	for v := range 65536 {
		s := string([]byte{byte(v), byte(v >> 8)})
		for _, alpha := range append([]int{0, 1, 8}, oddAlphas...) {
			expectColor(t, s, 15, alpha, meant(s, 15, alpha))
			expectColor(t, s, 16, alpha, meant(s, 16, alpha))
		}
	}
}

// P17.1: three and four bytes; without bits of alpha A is 255.
func TestColorOfMore(t *testing.T) {
	for v := range 256 {
		b := byte(v)
		for _, s := range []string{string([]byte{b, 1, 2, 3}), string([]byte{1, b, 2, 3}), string([]byte{1, 2, b, 3}), string([]byte{1, 2, 3, b})} {
			for _, alpha := range append([]int{0, 1, 8}, oddAlphas...) {
				expectColor(t, s[:3], 24, alpha, api.Color{R: s[2], G: s[1], B: s[0], A: 255})
				want := api.Color{R: s[2], G: s[1], B: s[0], A: s[3]}
				if alpha == 0 {
					want.A = 255
				}
				expectColor(t, s, 32, alpha, want)
			}
		}
	}
}

// P17.1: only the first bytes are looked at; of fewer, and of other bits, there is no colour.
func TestNoColor(t *testing.T) {
	s := run(9)
	for _, alpha := range append([]int{0, 1, 8}, oddAlphas...) {
		for _, bits := range []int{15, 16, 24, 32} {
			for n := range s {
				if n < entryBytes(bits) {
					expectNoColor(t, s[:n], bits, alpha)
				} else {
					expectColor(t, s[:n], bits, alpha, meant(s, bits, alpha))
				}
			}
		}
		for _, bits := range noBits {
			expectNoColor(t, s, bits, alpha)
			expectNoColor(t, "", bits, alpha)
		}
	}
}

// expectBytes holds a colour's bytes; none: empty.
func expectBytes(t *testing.T, c api.Color, bits, alpha int, want string) {
	t.Helper()
	if s, ok := Bytes(c, bits, alpha); s != want || ok != (want != "") {
		t.Fatalf("%v of %d bits, %d of alpha: %q, %t, not %q", c, bits, alpha, s, ok, want)
	}
}

// P17.2: all words of two bytes are those of their colours, whose highest bit is 0 where it isn't looked at.
func TestBytesOfTwo(t *testing.T) {
	for v := range 65536 {
		s := string([]byte{byte(v), byte(v >> 8)})
		low := string([]byte{byte(v), byte(v>>8) & 0x7f})
		for _, alpha := range append([]int{0, 1, 8}, oddAlphas...) {
			expectBytes(t, meant(s, 15, alpha), 15, alpha, low)
			if alpha == 1 {
				expectBytes(t, meant(s, 16, alpha), 16, alpha, s)
			} else {
				expectBytes(t, meant(s, 16, alpha), 16, alpha, low)
			}
		}
	}
}

// P17.1: of two bytes there are none for channels that aren't five bits, nor for an alpha that the bits don't tell.
func TestNoBytesOfTwo(t *testing.T) {
	for v := range 256 {
		b := byte(v)
		n := slices.Index(fifths[:], b)
		for i, c := range []api.Color{{R: b, A: 255}, {G: b, A: 255}, {B: b, A: 255}} {
			want, word := "", n<<[]int{10, 5, 0}[i]
			if n >= 0 {
				want = string([]byte{byte(word), byte(word >> 8)})
			}
			expectBytes(t, c, 15, 0, want)
			expectBytes(t, c, 16, 0, want)
			if n >= 0 {
				want = string([]byte{byte(word), byte(word>>8) + 128})
			}
			expectBytes(t, c, 16, 1, want)
		}
		clear, solid := "", ""
		if b == 255 {
			solid = "\x00\x00"
		}
		expectBytes(t, api.Color{A: b}, 15, 0, solid)
		expectBytes(t, api.Color{A: b}, 15, 1, solid)
		expectBytes(t, api.Color{A: b}, 16, 0, solid)
		expectBytes(t, api.Color{A: b}, 16, 8, solid)
		if b == 0 {
			clear = "\x00\x00"
		} else if b == 255 {
			clear = "\x00\x80"
		}
		expectBytes(t, api.Color{A: b}, 16, 1, clear)
	}
}

// P17.1, P17.2: three and four bytes: of 24 bits, and of 32 without alpha, only solid colours have some.
func TestBytesOfMore(t *testing.T) {
	for v := range 256 {
		b := byte(v)
		for _, c := range []api.Color{{R: b, G: 1, B: 2, A: 3}, {R: 1, G: b, B: 2, A: 3}, {R: 1, G: 2, B: b, A: 3}, {R: 1, G: 2, B: 3, A: b}} {
			whole := string([]byte{c.B, c.G, c.R, c.A})
			for _, alpha := range append([]int{1, 8}, oddAlphas...) {
				expectBytes(t, c, 32, alpha, whole)
			}
			solid := api.Color{R: c.R, G: c.G, B: c.B, A: 255}
			for _, alpha := range append([]int{0, 1, 8}, oddAlphas...) {
				expectBytes(t, solid, 24, alpha, whole[:3])
				expectBytes(t, solid, 32, alpha, whole[:3]+"\xff")
				if c.A != 255 {
					expectBytes(t, c, 24, alpha, "")
				}
			}
			if c.A != 255 {
				expectBytes(t, c, 32, 0, "")
			}
			for _, bits := range noBits {
				expectBytes(t, c, bits, 0, "")
				expectBytes(t, solid, bits, 0, "")
				expectBytes(t, solid, bits, 8, "")
			}
		}
	}
}

// P17.2: Color of Bytes is the colour, of any colours; where there are no bytes, no bytes have it.
func TestColorOfBytes(t *testing.T) {
	of := map[int]map[api.Color]bool{15: {}, 16: {}, 17: {}}
	for v := range 65536 {
		s := string([]byte{byte(v), byte(v >> 8)})
		of[15][meant(s, 15, 0)] = true
		of[16][meant(s, 16, 0)] = true
		of[17][meant(s, 16, 1)] = true
	}
	next := random()
	channel := func() uint8 {
		if next(3) > 0 {
			return fifths[next(32)]
		}
		return uint8(next(256))
	}
	for range 300000 {
		c := api.Color{R: channel(), G: channel(), B: channel(), A: []uint8{255, 255, 0, uint8(next(256))}[next(4)]}
		for _, x := range []struct {
			bits, alpha int
			has         bool
		}{{15, 0, of[15][c]}, {16, 0, of[16][c]}, {16, 1, of[17][c]}, {24, 0, c.A == 255}, {32, 0, c.A == 255}, {32, 8, true}} {
			s, ok := Bytes(c, x.bits, x.alpha)
			if ok != x.has || len(s) != 0 != ok {
				t.Fatalf("%v of %d bits, %d of alpha: %q, %t", c, x.bits, x.alpha, s, ok)
			}
			if ok {
				expectColor(t, s, x.bits, x.alpha, c)
			}
		}
	}
}

// places are those of all pixels, in a file's order, as two lists of numbers that are gone through.
func places(h tgahead.Head) [][2]int {
	var columns, rows []int
	for x := range h.Width {
		columns = append(columns, x)
	}
	for y := range h.Height {
		rows = append(rows, y)
	}
	if h.Left {
		slices.Reverse(columns)
	}
	if !h.Top {
		slices.Reverse(rows)
	}
	var l [][2]int
	for _, y := range rows {
		for _, x := range columns {
			l = append(l, [2]int{x, y})
		}
	}
	return l
}

// P17.1: the places of all pixels, in all four orders.
func TestPlace(t *testing.T) {
	for width := 1; width < 20; width++ {
		for height := 1; height < 20; height++ {
			for k := range 4 {
				h := tgahead.Head{Type: 2, Depth: 24, Width: width, Height: height, Left: k%2 == 1, Top: k > 1}
				for i, want := range places(h) {
					if x, y := Place(h, i); x != want[0] || y != want[1] {
						t.Fatalf("%+v: %d is %d, %d, not %v", h, i, x, y, want)
					}
				}
			}
		}
	}
	big := tgahead.Head{Type: 3, Depth: 8, Width: 16384, Height: 16384}
	for _, x := range []struct {
		left, top bool
		k, x, y   int
	}{
		{false, false, 0, 0, 16383},
		{false, false, 16383, 16383, 16383},
		{false, false, 16384, 0, 16382},
		{true, false, 0, 16383, 16383},
		{true, true, 0, 16383, 0},
		{false, true, 16384*16384 - 1, 16383, 16383},
		{true, false, 16384*16384 - 1, 0, 0},
		{true, true, 16384*7 + 5, 16378, 7},
	} {
		big.Left, big.Top = x.left, x.top
		if gx, gy := Place(big, x.k); gx != x.x || gy != x.y {
			t.Errorf("%+v: %d, %d", x, gx, gy)
		}
	}
}

// Rule 4 of the language: heads that layer 16 doesn't tell, and palettes that Map didn't, end without a panic, and keep no bytes beside a fault.
func TestStrange(t *testing.T) {
	far := []int{math.MinInt, -1 << 32, -65536, -1, 0, 1, 2, 3, 7, 8, 9, 10, 11, 15, 16, 24, 32, 255, 65536, 70000, 1 << 32, 1 << 62, math.MaxInt}
	next := random()
	pick := func() int { return far[next(len(far))] }
	freed, _ := palette.New(free(), 3)
	freed.Add(api.Color{})
	freed.Free()
	for range 100000 {
		h := tgahead.Head{Name: next(4) * pick(), Map: next(2) == 0, Type: pick(), First: pick(), Count: pick(), Entry: pick(), Width: pick(), Height: pick(), Depth: pick(), Alpha: pick(), Left: next(2) == 0, Top: next(2) == 0}
		l := budget(1<<20, 1<<20)
		if p, f := Map(source(t, l, run(100)), h); f.Kind != api.NoFault && (p != nil || l.Bytes() != 0) {
			t.Errorf("%+v: %v, %+v, %d bytes", h, p, f, l.Bytes())
		}
		for _, p := range []*palette.Palette{nil, freed} {
			if c, f := Pixel(source(t, free(), strings.Repeat("a", next(5))), h, p); f.Kind != api.NoFault && c != (api.Color{}) {
				t.Errorf("%+v: %v, %+v", h, c, f)
			}
		}
		Place(h, pick())
	}
}
