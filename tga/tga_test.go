package tga

import (
	"math"
	"strings"
	"testing"

	"tintype/api"
	"tintype/ledger"
	"tintype/raster"
	"tintype/src"
	"tintype/tgahead"
	"tintype/tgapix"
	"tintype/tgarle"
)

// much is a budget that lets everything.
var much = api.Budget{MaxWidth: math.MaxInt, MaxHeight: math.MaxInt, MaxBytes: math.MaxInt, MaxWork: math.MaxInt}

// random tells numbers below n, of a seed of its own.
func random(seed uint64) func(n int) int {
	return func(n int) int {
		seed = seed*6364136223846793005 + 1442695040888963407
		return int(seed>>33) % n
	}
}

func source(t *testing.T, g api.Budget, text string) *src.Src {
	t.Helper()
	s, e := src.New(ledger.New(g), text)
	if e != api.OK {
		t.Fatalf("no source: %d", e)
	}
	return s
}

func fault(kind, at int) api.Fault {
	return api.Fault{Kind: kind, Format: api.TGA, At: at}
}

// picture is an image of such colours.
func picture(width, height int, l ...api.Color) api.Image {
	m := api.Image{Width: width, Height: height}
	for _, c := range l {
		m.Pix = append(m.Pix, c.R, c.G, c.B, c.A)
	}
	return m
}

func shade(v uint8) api.Color { return api.Color{R: v, G: v, B: v, A: 255} }

func color(r, g, b, a uint8) api.Color { return api.Color{R: r, G: g, B: b, A: a} }

// begin is the bytes of a head, and others behind it.
func begin(t *testing.T, h tgahead.Head, rest string) string {
	t.Helper()
	b, e := tgahead.Bytes(h)
	if e != api.OK {
		t.Fatalf("no bytes of %+v", h)
	}
	return b + rest
}

// decode is the image of a source's file, or what is wrong. Its ledger keeps just the bytes of the image more, or none.
func decode(t *testing.T, s *src.Src) (api.Image, api.Fault) {
	t.Helper()
	had := s.Ledger().Bytes()
	r, f := Decode(s)
	if f.Kind != api.NoFault {
		if r != nil || s.Ledger().Bytes() != had {
			t.Errorf("%+v: beside it %v, and %d bytes", f, r, s.Ledger().Bytes()-had)
		}
		return api.Image{}, f
	}
	if f != (api.Fault{}) {
		t.Errorf("no fault is %+v", f)
	}
	m, ok := r.Image()
	if !ok || !raster.Right(m) || s.Ledger().Bytes() != had+len(m.Pix) {
		t.Errorf("%d by %d, %t, of %d bytes: %d more are kept", m.Width, m.Height, ok, len(m.Pix), s.Ledger().Bytes()-had)
	}
	return m, f
}

// expect holds a whole text against its image, or what is wrong.
func expect(t *testing.T, text string, m api.Image, f api.Fault) {
	t.Helper()
	got, g := decode(t, source(t, much, text))
	if g != f || !raster.Same(got, m) {
		t.Errorf("%.60q: %v, %+v, not %v, %+v", text, got, g, m, f)
	}
}

// P19.1: the chapter's example.
func TestExample(t *testing.T) {
	expect(t, begin(t, tgahead.Head{Type: 2, Width: 1, Height: 1, Depth: 32, Alpha: 8}, "\x01\x02\x03\x04"), picture(1, 1, color(3, 2, 1, 4)), api.Fault{})
}

// file is one, its image, how many entries its map has that are kept, and how many steps it needs.
type file struct {
	text         string
	m            api.Image
	kept, steps  int
	entries, end int // where the map begins, and where it ends
}

// files are one of each type, and more; each ends with its last pixel.
func files(t *testing.T) []file {
	t.Helper()
	named := func(n int) string { return strings.Repeat("n", n) }
	return []file{
		{begin(t, tgahead.Head{Name: 3, Map: true, Type: 1, First: 7, Count: 2, Entry: 24, Width: 2, Height: 2, Depth: 8}, named(3)+"abcABC\x07\x08\x08\x08"),
			picture(2, 2, color('C', 'B', 'A', 255), color('C', 'B', 'A', 255), color('c', 'b', 'a', 255), color('C', 'B', 'A', 255)), 2, 1 + 1 + 2 + 8, 21, 27},
		{begin(t, tgahead.Head{Map: true, Type: 1, Count: 3, Entry: 16, Width: 3, Height: 1, Depth: 8, Left: true, Top: true}, "\x00\x00\xff\x7f\x00\xfc\x00\x01\x02"),
			picture(3, 1, color(255, 0, 0, 255), shade(255), shade(0)), 3, 1 + 1 + 3 + 6, 18, 24},
		{begin(t, tgahead.Head{Map: true, Type: 9, First: 1, Count: 1, Entry: 32, Width: 2, Height: 3, Depth: 8}, "\x01\x02\x03\x04\x84\x01\x00\x01"),
			picture(2, 3, color(3, 2, 1, 4), color(3, 2, 1, 4), color(3, 2, 1, 4), color(3, 2, 1, 4), color(3, 2, 1, 4), color(3, 2, 1, 4)), 1, 1 + 1 + 1 + 2 + 5 + 2 + 1, 18, 22},
		{begin(t, tgahead.Head{Name: 255, Type: 2, Width: 1, Height: 2, Depth: 24}, named(255)+"abcdef"),
			picture(1, 2, color('f', 'e', 'd', 255), color('c', 'b', 'a', 255)), 0, 1 + 1 + 4, 273, 273},
		{begin(t, tgahead.Head{Map: true, Type: 2, First: 9, Count: 2, Entry: 15, Width: 1, Height: 1, Depth: 32}, "....abcd"),
			picture(1, 1, color('c', 'b', 'a', 255)), 0, 1 + 1 + 1 + 2, 18, 22},
		{begin(t, tgahead.Head{Type: 2, Width: 2, Height: 1, Depth: 16, Alpha: 1, Left: true}, "\x00\x80\xff\x7f"),
			picture(2, 1, color(255, 255, 255, 0), shade(0)), 0, 1 + 1 + 4, 18, 18},
		{begin(t, tgahead.Head{Name: 1, Type: 10, Width: 3, Height: 2, Depth: 15, Top: true}, "n\x83\xff\x7f\x01\x00\x00\x1f\x00"),
			picture(3, 2, shade(255), shade(255), shade(255), shade(255), shade(0), color(0, 0, 255, 255)), 0, 1 + 1 + 2 + 4 + 1 + 4, 19, 19},
		{begin(t, tgahead.Head{Type: 10, Width: 1, Height: 2, Depth: 32, Alpha: 8}, "\x01abcdABCD"),
			picture(1, 2, color('C', 'B', 'A', 'D'), color('c', 'b', 'a', 'd')), 0, 1 + 1 + 1 + 4, 18, 18},
		{begin(t, tgahead.Head{Name: 2, Type: 3, Width: 2, Height: 2, Depth: 8, Top: true}, "nn1234"),
			picture(2, 2, shade('1'), shade('2'), shade('3'), shade('4')), 0, 1 + 1 + 8, 20, 20},
		{begin(t, tgahead.Head{Map: true, Type: 11, Count: 1, Entry: 24, Width: 2, Height: 2, Depth: 8, Left: true}, "...\x82a\x00b"),
			picture(2, 2, shade('b'), shade('a'), shade('a'), shade('a')), 0, 1 + 1 + 1 + 2 + 3 + 1 + 2, 18, 21},
	}
}

// P19.1: files of all types; what stands behind isn't looked at.
func TestDecode(t *testing.T) {
	for _, x := range files(t) {
		for _, tail := range []string{"", "\x00", "\xff", "\x82abcdefgh", "TRUEVISION-XFILE.\x00"} {
			expect(t, x.text+tail, x.m, api.Fault{})
		}
	}
}

// P19.1: a file that is cut off anywhere is Truncated at its end.
func TestCutOff(t *testing.T) {
	for _, x := range files(t) {
		for n := range len(x.text) {
			expect(t, x.text[:n], api.Image{}, fault(api.Truncated, n))
		}
	}
}

// P19.1: a file is read from the source's place on, within what it goes over; places are those of the whole text.
func TestPlace(t *testing.T) {
	for _, x := range files(t) {
		text := "\x00\x00\x02" + x.text + "!"
		s := source(t, much, text)
		s.Seek(3)
		if m, f := decode(t, s); f != (api.Fault{}) || !raster.Same(m, x.m) || s.At() != len(text)-1 {
			t.Errorf("%q: %v, %+v, at %d", text, m, f, s.At())
		}
		w, _ := source(t, much, text).Window(3, len(x.text))
		if m, f := decode(t, w); f != (api.Fault{}) || !raster.Same(m, x.m) {
			t.Errorf("%q: %v, %+v", text, m, f)
		}
		w, _ = source(t, much, text).Window(3, len(x.text)-1)
		if _, f := decode(t, w); f != fault(api.Truncated, len(text)-2) {
			t.Errorf("%q: %+v", text, f)
		}
	}
	l := files(t)
	s := source(t, much, l[0].text+l[9].text)
	for _, m := range []api.Image{l[0].m, l[9].m} {
		if got, f := decode(t, s); f != (api.Fault{}) || !raster.Same(got, m) {
			t.Errorf("one behind the other: %v, %+v", got, f)
		}
	}
}

// P19.1: what is wrong with a head, with the map's numbers, or with packets.
func TestWrong(t *testing.T) {
	for _, x := range []struct {
		change func(b []byte)
		f      api.Fault
	}{
		{func(b []byte) { b[1] = 2 }, fault(api.Malformed, 1)},
		{func(b []byte) { b[1] = 0 }, fault(api.Malformed, 1)},
		{func(b []byte) { b[2] = 0 }, fault(api.Unsupported, 2)},
		{func(b []byte) { b[7] = 8 }, fault(api.Unsupported, 7)},
		{func(b []byte) { b[5] = 0 }, fault(api.Malformed, 5)},
		{func(b []byte) { b[12] = 0 }, fault(api.Malformed, 12)},
		{func(b []byte) { b[13] = 0x41 }, fault(api.Unsupported, 12)},
		{func(b []byte) { b[14] = 0 }, fault(api.Malformed, 14)},
		{func(b []byte) { b[16] = 16 }, fault(api.Unsupported, 16)},
		{func(b []byte) { b[17] = 0x80 }, fault(api.Unsupported, 17)},
		{func(b []byte) { b[17] = 1 }, fault(api.Malformed, 17)},
		{func(b []byte) { b[2] = 9 }, fault(api.Malformed, 27)},
		{func(b []byte) { b[3] = 8 }, fault(api.Malformed, 27)},
		{func(b []byte) { b[3] = 6 }, fault(api.Malformed, 28)},
		{func(b []byte) { b[30] = 9 }, fault(api.Malformed, 30)},
		{func(b []byte) { b[0] = 4 }, fault(api.Truncated, 31)},
		{func(b []byte) { b[5] = 4 }, fault(api.Truncated, 31)},
		{func(b []byte) { b[14] = 3 }, fault(api.Truncated, 31)},
		{func(b []byte) { b[13] = 0x40 }, fault(api.Unsupported, 12)},
	} {
		b := []byte(files(t)[0].text)
		x.change(b)
		expect(t, string(b), api.Image{}, x.f)
	}
}

// P19.1: what a budget doesn't let is Spent at the source's place: the sides and the bytes of the raster behind the head, ahead of what is wrong with the rest.
func TestSpentRaster(t *testing.T) {
	for _, x := range files(t) {
		need := api.Budget{MaxWidth: x.m.Width, MaxHeight: x.m.Height, MaxBytes: len(x.m.Pix) + 4*x.kept, MaxWork: x.steps}
		for _, change := range []func(g *api.Budget){
			func(g *api.Budget) { g.MaxWidth-- },
			func(g *api.Budget) { g.MaxHeight-- },
			func(g *api.Budget) { g.MaxWidth = math.MinInt },
			func(g *api.Budget) { g.MaxHeight = 0 },
			func(g *api.Budget) { g.MaxBytes = len(x.m.Pix) - 1 },
			func(g *api.Budget) { g.MaxBytes = 0 },
			func(g *api.Budget) { g.MaxBytes = -1 },
		} {
			g := need
			change(&g)
			for _, text := range []string{x.text, x.text[:18]} {
				s := source(t, g, text)
				if _, f := decode(t, s); f != fault(api.Spent, 18) || s.At() != 18 || s.Ledger().Peak() != 0 || s.Ledger().Steps() != 1 {
					t.Errorf("%.40q by %+v: %+v, at %d", text, g, f, s.At())
				}
			}
			b := []byte(x.text)
			b[12], b[13] = 0, 0
			if _, f := decode(t, source(t, g, string(b))); f != fault(api.Malformed, 12) {
				t.Errorf("no width by %+v: %+v", g, f)
			}
		}
		s := source(t, need, x.text)
		if m, f := decode(t, s); f != (api.Fault{}) || !raster.Same(m, x.m) || s.Ledger().Steps() != x.steps || s.Ledger().Peak() != need.MaxBytes {
			t.Errorf("%.40q by its need: %v, %+v, %d steps, %d bytes", x.text, m, f, s.Ledger().Steps(), s.Ledger().Peak())
		}
	}
}

// P19.1: the bytes of the entries are asked for behind the name, with those of the raster kept; where they are refused, none are kept.
func TestSpentMap(t *testing.T) {
	for _, x := range files(t) {
		for less := 1; less <= 4*x.kept; less++ {
			g := much
			g.MaxBytes = len(x.m.Pix) + 4*x.kept - less
			for _, text := range []string{x.text, x.text[:x.entries], x.text + "\xff"} {
				s := source(t, g, text)
				if _, f := decode(t, s); f != fault(api.Spent, x.entries) || s.Ledger().Peak() != len(x.m.Pix) {
					t.Errorf("%.40q by %d bytes: %+v, %d were kept", text, g.MaxBytes, f, s.Ledger().Peak())
				}
			}
		}
		if x.entries > 18 {
			g := much
			g.MaxBytes = len(x.m.Pix)
			expectBy(t, g, x.text[:x.entries-1], fault(api.Truncated, x.entries-1))
		}
	}
}

// expectBy holds what is wrong with a text by a budget.
func expectBy(t *testing.T, g api.Budget, text string, f api.Fault) {
	t.Helper()
	if _, got := decode(t, source(t, g, text)); got != f {
		t.Errorf("%.40q by %+v: %+v, not %+v", text, g, got, f)
	}
}

// P19.1: by less steps than are enough it is Spent at the source's place, and no bytes are kept; by those and by more it is told.
func TestSteps(t *testing.T) {
	for _, x := range files(t) {
		for steps := range x.steps + 3 {
			g := much
			g.MaxWork = steps
			s := source(t, g, x.text)
			m, f := decode(t, s)
			if steps < x.steps && (f != fault(api.Spent, s.At()) || s.Ledger().Steps() != steps) {
				t.Errorf("%.40q by %d steps: %+v, at %d, %d were done", x.text, steps, f, s.At(), s.Ledger().Steps())
			}
			if steps >= x.steps && (f != (api.Fault{}) || !raster.Same(m, x.m)) {
				t.Errorf("%.40q by %d steps: %v, %+v", x.text, steps, m, f)
			}
		}
	}
}

// P19.1: a raster is open, and the caller's: it can be freed, and a second one has bytes of its own.
func TestOpen(t *testing.T) {
	x := files(t)[0]
	s := source(t, much, x.text+x.text)
	one, f := Decode(s)
	other, g := Decode(s)
	if f != (api.Fault{}) || g != f || s.Ledger().Bytes() != 32 || s.Left() != 0 {
		t.Fatal(f, g, s.Ledger().Bytes())
	}
	if !one.Set(0, 0, shade(0)) || !one.Free() || s.Ledger().Bytes() != 16 {
		t.Error("the first one isn't open")
	}
	if m, ok := other.Image(); !ok || !raster.Same(m, x.m) {
		t.Errorf("%v, %t", m, ok)
	}
}

// P19.1: any bytes are what the layers below make of them, one behind the other; whatever the budget is, but for Spent, they are the same.
func TestAnyBytes(t *testing.T) {
	next := random(19)
	for _, x := range files(t) {
		for range 3000 {
			b := []byte(x.text)
			for range 1 + next(4) {
				b[next(len(b))] = "\x00\x01\x02\x03\x04\x08\x09\x10\x18\x20\x80\x82\xff"[next(13)]
			}
			text := string(b[:len(b)-next(2)*next(len(b))])
			g := api.Budget{MaxWidth: 300, MaxHeight: 300, MaxBytes: 40000, MaxWork: 100000}
			m, f := decode(t, source(t, g, text))
			if want, h := layers(source(t, g, text)); f != h || !raster.Same(m, want) {
				t.Errorf("%q: %v, %+v, not %v, %+v", text, m, f, want, h)
			}
			if f.Kind != api.NoFault && (f.Kind > api.Spent || f.Format != api.TGA || f.At < 0 || f.At > len(text)) {
				t.Errorf("%q: %+v", text, f)
			}
			small := api.Budget{MaxWidth: next(5), MaxHeight: next(5), MaxBytes: next(60), MaxWork: next(40)}
			k, h := decode(t, source(t, small, text))
			if h.Kind != api.Spent && f.Kind != api.Spent && (h != f || !raster.Same(k, m)) {
				t.Errorf("%q by %+v: %v, %+v, not %v, %+v", text, small, k, h, m, f)
			}
		}
	}
}

// layers decodes a file by the layers below.
func layers(s *src.Src) (api.Image, api.Fault) {
	h, f := tgahead.Read(s)
	if f.Kind != api.NoFault {
		return api.Image{}, f
	}
	r, e := raster.New(s.Ledger(), h.Width, h.Height)
	if e != api.OK {
		return api.Image{}, fault(api.Spent, s.At())
	}
	p, f := tgapix.Map(s, h)
	if f.Kind == api.NoFault {
		f = tgarle.Read(s, h, p, r)
	}
	if f.Kind != api.NoFault {
		return api.Image{}, f
	}
	m, _ := r.Image()
	return m, f
}

// expectFile holds what is written against a file.
func expectFile(t *testing.T, m api.Image, o Options, want string) {
	t.Helper()
	if text, e := Write(m, o); text != want || e != api.OK {
		t.Errorf("%+v: %q, %d, not %q", o, text, e, want)
	}
}

// expectNone holds what can't be written against why.
func expectNone(t *testing.T, m api.Image, o Options, want api.Errno) {
	t.Helper()
	if text, e := Write(m, o); text != "" || e != want {
		t.Errorf("%d by %d, %d bytes, %+v: %.60q, %d, not %d", m.Width, m.Height, len(m.Pix), o, text, e, want)
	}
}

// P19.1: files by hand, byte by byte.
func TestWrite(t *testing.T) {
	red, clear := color(255, 0, 0, 255), color(0, 0, 255, 0)
	expectFile(t, picture(1, 1, color(3, 2, 1, 4)), Options{Bits: 32, Alpha: 8}, "\x00\x00\x02\x00\x00\x00\x00\x00\x00\x00\x00\x00\x01\x00\x01\x00\x20\x08\x01\x02\x03\x04")
	expectFile(t, picture(1, 1, color(3, 2, 1, 255)), Options{Bits: 32}, "\x00\x00\x02\x00\x00\x00\x00\x00\x00\x00\x00\x00\x01\x00\x01\x00\x20\x00\x01\x02\x03\xff")
	expectFile(t, picture(1, 2, shade(7), shade(8)), Options{Bits: 8}, "\x00\x00\x03\x00\x00\x00\x00\x00\x00\x00\x00\x00\x01\x00\x02\x00\x08\x00\x08\x07")
	expectFile(t, picture(1, 2, shade(7), shade(8)), Options{Bits: 8, Top: true, Name: "ab"}, "\x02\x00\x03\x00\x00\x00\x00\x00\x00\x00\x00\x00\x01\x00\x02\x00\x08\x20ab\x07\x08")
	expectFile(t, picture(3, 1, shade(7), shade(8), shade(8)), Options{Bits: 8, Packed: true}, "\x00\x00\x0b\x00\x00\x00\x00\x00\x00\x00\x00\x00\x03\x00\x01\x00\x08\x00\x00\x07\x81\x08")
	expectFile(t, picture(3, 1, shade(7), shade(8), shade(8)), Options{Bits: 8, Packed: true, Left: true}, "\x00\x00\x0b\x00\x00\x00\x00\x00\x00\x00\x00\x00\x03\x00\x01\x00\x08\x10\x81\x08\x00\x07")
	expectFile(t, picture(2, 1, red, color(1, 2, 3, 255)), Options{Bits: 24, Left: true, Top: true}, "\x00\x00\x02\x00\x00\x00\x00\x00\x00\x00\x00\x00\x02\x00\x01\x00\x18\x30\x03\x02\x01\x00\x00\xff")
	expectFile(t, picture(2, 1, red, red), Options{Bits: 15}, "\x00\x00\x02\x00\x00\x00\x00\x00\x00\x00\x00\x00\x02\x00\x01\x00\x0f\x00\x00\x7c\x00\x7c")
	expectFile(t, picture(2, 1, red, red), Options{Bits: 16}, "\x00\x00\x02\x00\x00\x00\x00\x00\x00\x00\x00\x00\x02\x00\x01\x00\x10\x00\x00\x7c\x00\x7c")
	expectFile(t, picture(2, 1, red, clear), Options{Bits: 16, Alpha: 1}, "\x00\x00\x02\x00\x00\x00\x00\x00\x00\x00\x00\x00\x02\x00\x01\x00\x10\x01\x00\xfc\x1f\x00")
	expectFile(t, picture(2, 1, red, red), Options{Bits: 16, Alpha: 1, Packed: true, Name: "\x00"}, "\x01\x00\x0a\x00\x00\x00\x00\x00\x00\x00\x00\x00\x02\x00\x01\x00\x10\x01\x00\x81\x00\xfc")
	wide := picture(300, 1)
	wide.Pix = []byte(strings.Repeat("\x01\x01\x01\xff", 300))
	expectFile(t, wide, Options{Bits: 8, Packed: true}, "\x00\x00\x0b\x00\x00\x00\x00\x00\x00\x00\x00\x00\x2c\x01\x01\x00\x08\x00\xff\x01\xff\x01\xab\x01")
}

// alphas are the bits of alpha that go with those of a pixel.
func alphas(bits int) []int {
	switch bits {
	case 16:
		return []int{0, 1}
	case 32:
		return []int{0, 8}
	}
	return []int{0}
}

// options are all that an image may be written by, with a name.
func options(name string) (l []Options) {
	for _, bits := range []int{8, 15, 16, 24, 32} {
		for _, alpha := range alphas(bits) {
			for order := range 8 {
				l = append(l, Options{Bits: bits, Alpha: alpha, Packed: order&1 != 0, Left: order&2 != 0, Top: order&4 != 0, Name: name})
			}
		}
	}
	return l
}

// P19.1: bits, bits of alpha and names that no file has are ErrArg, whatever else is wrong.
func TestWriteArg(t *testing.T) {
	images := []api.Image{picture(1, 1, shade(7)), picture(1, 1, color(1, 2, 3, 4)), {}, {Width: 1, Height: 1}, {Width: -1, Height: -1, Pix: make([]byte, 4)}}
	odd := []int{math.MinInt, -1 << 32, -256, -32, -8, -1, 0, 1, 2, 3, 4, 5, 7, 8, 9, 10, 14, 15, 16, 17, 23, 24, 25, 31, 32, 33, 64, 255, 256, 257, 256 + 8, 256 + 24, 1<<32 + 8, 1<<32 + 24, 1<<32 + 1, math.MaxInt}
	fits := func(bits, alpha int) bool {
		for _, o := range options("") {
			if o.Bits == bits && o.Alpha == alpha {
				return true
			}
		}
		return false
	}
	for _, m := range images {
		for _, bits := range odd {
			for _, alpha := range odd {
				for order := range 8 {
					o := Options{Bits: bits, Alpha: alpha, Packed: order&1 != 0, Left: order&2 != 0, Top: order&4 != 0}
					if _, e := Write(m, o); (e == api.ErrArg) == fits(bits, alpha) {
						t.Errorf("%+v: %d", o, e)
					}
					if !fits(bits, alpha) {
						expectNone(t, m, o, api.ErrArg)
					}
				}
			}
		}
		for _, n := range []int{256, 257, 511, 512, 1 << 16} {
			expectNone(t, m, Options{Bits: 24, Name: strings.Repeat("n", n)}, api.ErrArg)
			expectNone(t, m, Options{Bits: 8, Name: strings.Repeat("n", n)}, api.ErrArg)
		}
	}
	for _, name := range []string{"", "n", strings.Repeat("\xff", 254), strings.Repeat("n", 255)} {
		expectFile(t, picture(1, 1, shade(7)), Options{Bits: 8, Name: name}, string([]byte{byte(len(name))})+"\x00\x03\x00\x00\x00\x00\x00\x00\x00\x00\x00\x01\x00\x01\x00\x08\x00"+name+"\x07")
	}
}

// P19.1: an image that isn't right is ErrSize, behind what is wrong with the options and ahead of its pixels.
func TestWriteSize(t *testing.T) {
	for _, m := range []api.Image{
		{},
		{Width: 1, Height: 1},
		{Width: 1, Height: 1, Pix: make([]byte, 3)},
		{Width: 1, Height: 1, Pix: make([]byte, 5)},
		{Width: 2, Height: 1, Pix: make([]byte, 4)},
		{Width: 0, Height: 1, Pix: make([]byte, 4)},
		{Width: -1, Height: -1, Pix: make([]byte, 4)},
		{Width: 1, Height: 0},
		{Width: api.MaxSide + 1, Height: 1, Pix: make([]byte, 4*(api.MaxSide+1))},
		{Width: 1, Height: api.MaxSide + 1, Pix: make([]byte, 4*(api.MaxSide+1))},
		{Width: 1 << 32, Height: 1 << 32, Pix: make([]byte, 4)},
		{Width: math.MaxInt, Height: math.MaxInt},
		{Width: math.MinInt, Height: math.MinInt},
	} {
		for _, o := range options("n") {
			expectNone(t, m, o, api.ErrSize)
		}
	}
}

// P19.1: a pixel that has no bytes of so many bits is ErrForm, wherever it stands.
func TestWriteForm(t *testing.T) {
	good := picture(3, 2, shade(0), shade(255), shade(255), shade(0), shade(0), shade(255))
	for _, o := range options("") {
		if _, e := Write(good, o); e != api.OK {
			t.Errorf("%+v: %d", o, e)
		}
		for _, c := range []api.Color{{R: 1, A: 255}, {G: 255, A: 255}, {B: 1, A: 255}, {R: 255, G: 255, B: 254, A: 255}, shade(1), {}, {A: 254}, {A: 1}, {R: 255, G: 255, B: 255}, {R: 1, G: 1, B: 1}, shade(8), {R: 33, G: 66, B: 99, A: 255}, {R: 9, G: 8, B: 7, A: 6}} {
			_, fits := tgapix.Bytes(c, o.Bits, o.Alpha)
			if o.Bits == 8 {
				fits = c == shade(c.R)
			}
			for k := range 6 {
				m := raster.Clone(good)
				copy(m.Pix[4*k:], []byte{c.R, c.G, c.B, c.A})
				if fits {
					if _, e := Write(m, o); e != api.OK {
						t.Errorf("%+v, %v: %d", o, c, e)
					}
				} else {
					expectNone(t, m, o, api.ErrForm)
				}
			}
		}
	}
}

// P19.1: of 8 bits all greys are written, and no other colour that is near one.
func TestWriteGrey(t *testing.T) {
	for v := range 256 {
		g := uint8(v)
		expectFile(t, picture(1, 1, shade(g)), Options{Bits: 8}, "\x00\x00\x03\x00\x00\x00\x00\x00\x00\x00\x00\x00\x01\x00\x01\x00\x08\x00"+string([]byte{g}))
		for _, c := range []api.Color{color(g+1, g, g, 255), color(g, g+1, g, 255), color(g, g, g+1, 255), color(g, g, g, 254), color(g, g, g, 0)} {
			expectNone(t, picture(1, 1, c), Options{Bits: 8}, api.ErrForm)
			expectNone(t, picture(1, 1, c), Options{Bits: 8, Packed: true}, api.ErrForm)
		}
	}
}

// written is an image that can be written of so many bits.
func written(next func(n int) int, bits, alpha, width, height int) api.Image {
	m := api.Image{Width: width, Height: height}
	for len(m.Pix) < 4*width*height {
		b := string([]byte{byte(next(256)), byte(next(256)), byte(next(256)), byte(next(256))})
		c, ok := tgapix.Color(b, bits, alpha)
		if !ok {
			c = shade(b[0])
		}
		for range 1 + next(2)*next(200) {
			if len(m.Pix) < 4*width*height {
				m.Pix = append(m.Pix, c.R, c.G, c.B, c.A)
			}
		}
	}
	return m
}

// P19.2: what is written is decoded as it was, by all options, with its head and name, whatever stands behind it.
func TestBack(t *testing.T) {
	next := random(4)
	for _, name := range []string{"", "a name", strings.Repeat("\x00\xff", 127) + "n"} {
		for _, o := range options(name) {
			for _, sides := range [][2]int{{1, 1}, {1, 2}, {2, 1}, {3, 2}, {2, 5}, {17, 9}, {1, 300}, {300, 1}, {129, 4}} {
				m := written(next, o.Bits, o.Alpha, sides[0], sides[1])
				had := raster.Clone(m)
				text, e := Write(m, o)
				if e != api.OK || !raster.Same(m, had) {
					t.Fatalf("%+v: %d, or the image was changed", o, e)
				}
				back(t, text, m, o)
			}
		}
	}
}

// back holds a file's head, its name and its image against what it was written of.
func back(t *testing.T, text string, m api.Image, o Options) {
	t.Helper()
	s := source(t, much, text)
	want := tgahead.Head{Name: len(o.Name), Type: 2, Width: m.Width, Height: m.Height, Depth: o.Bits, Alpha: o.Alpha, Left: o.Left, Top: o.Top}
	if o.Bits == 8 {
		want.Type = 3
	}
	if o.Packed {
		want.Type += 8
	}
	if h, f := tgahead.Read(s); h != want || f != (api.Fault{}) {
		t.Errorf("%+v: %+v, %+v", o, h, f)
	}
	if name, _ := s.Take(len(o.Name)); name != o.Name {
		t.Errorf("%+v: the name is %q", o, name)
	}
	expect(t, text, m, api.Fault{})
	expect(t, text+"\x80", m, api.Fault{})
	expect(t, text[:len(text)-1], api.Image{}, fault(api.Truncated, len(text)-1))
	if !o.Packed && s.Left() != m.Width*m.Height*((o.Bits+7)/8) {
		t.Errorf("%+v: %d bytes of pixels", o, s.Left())
	}
}

// P19.2: the greatest sides, packed and not.
func TestGreat(t *testing.T) {
	m := api.Image{Width: api.MaxSide, Height: 2, Pix: []byte(strings.Repeat("\x00\x00\x00\xff\xff\xff\xff\xff", api.MaxSide))}
	high := api.Image{Width: 2, Height: api.MaxSide, Pix: m.Pix}
	for _, o := range []Options{{Bits: 8}, {Bits: 8, Packed: true, Left: true}, {Bits: 32, Packed: true, Top: true}, {Bits: 16, Alpha: 1}} {
		for _, m := range []api.Image{m, high} {
			text, e := Write(m, o)
			if e != api.OK {
				t.Fatal(e)
			}
			expect(t, text, m, api.Fault{})
		}
	}
}
