package bmp

import (
	"encoding/binary"
	"math"
	"strings"
	"testing"

	"tintype/api"
	"tintype/dibhead"
	"tintype/dibrle"
	"tintype/dibrow"
	"tintype/ledger"
	"tintype/raster"
	"tintype/src"
)

// much is a budget that lets everything.
var much = api.Budget{MaxWidth: math.MaxInt, MaxHeight: math.MaxInt, MaxBytes: math.MaxInt, MaxWork: math.MaxInt}

// random tells numbers below n, of a seed of its own.
func random(seed uint64) func(n int) int {
	return func(n int) int {
		seed = seed*6364136223846793005 + 1442695040888963407
		return int(seed>>33) % n
	}
}

func source(t *testing.T, g api.Budget, text string) *src.Src {
	t.Helper()
	s, e := src.New(ledger.New(g), text)
	if e != api.OK {
		t.Fatalf("no source: %d", e)
	}
	return s
}

func wrong(kind, at int) api.Fault {
	return api.Fault{Kind: kind, Format: api.BMP, At: at}
}

// image is one of such colours.
func image(width, height int, l ...api.Color) api.Image {
	m := api.Image{Width: width, Height: height}
	for _, c := range l {
		m.Pix = append(m.Pix, c.R, c.G, c.B, c.A)
	}
	return m
}

func shade(v uint8) api.Color { return api.Color{R: v, G: v, B: v, A: 255} }

func color(r, g, b, a uint8) api.Color { return api.Color{R: r, G: g, B: b, A: a} }

var (
	none  = api.Color{}
	black = shade(0)
	white = shade(255)
	red   = color(255, 0, 0, 255)
	green = color(0, 255, 0, 255)
	blue  = color(0, 0, 255, 255)
)

func le32(l ...int) string {
	var b []byte
	for _, v := range l {
		b = binary.LittleEndian.AppendUint32(b, uint32(v))
	}
	return string(b)
}

func le16(l ...int) string {
	var b []byte
	for _, v := range l {
		b = binary.LittleEndian.AppendUint16(b, uint16(v))
	}
	return string(b)
}

// parts are a file's: its head's numbers, its table, what stands between that and its pixels, and these.
type parts struct {
	size, width, height, depth, method, colors int
	masks                                      []int
	table, gap, pixels                         string
}

// head is the bytes of the head, and of the masks behind it.
func (p parts) head() string {
	if p.size == 12 {
		return le32(12) + le16(p.width, p.height, 1, p.depth)
	}
	b := le32(p.size, p.width, p.height) + le16(1, p.depth) + le32(p.method, 0, 0, 0, p.colors, 0) + le32(p.masks...)
	return b + strings.Repeat("\x00", max(0, p.size-len(b)))
}

// begin is the bytes ahead of a head: what isn't looked at is any.
func begin(place int) string { return "BM" + "size" + "none" + le32(place) }

// behind is where the table ends, behind which the pixels may stand.
func (p parts) behind() int { return 14 + len(p.head()) + len(p.table) }

// at is a file whose pixels are told to stand at a place.
func (p parts) at(place int) string { return begin(place) + p.head() + p.table + p.gap + p.pixels }

// text is the file as it should be.
func (p parts) text() string { return p.at(p.behind() + len(p.gap)) }

// file is one, its image, how many entries are kept of it, and how many steps it needs.
type file struct {
	parts
	m           api.Image
	kept, steps int
}

// files are one of each bits, heads and methods; each ends with the last byte of its pixels.
func files() []file {
	const (
		redBlue         = "\x00\x00\xff\x09\xff\x00\x00\x09"
		blackWhiteGreen = "\x00\x00\x00\x09\xff\xff\xff\x09\x00\xff\x00\x09"
	)
	straight := []int{0xff0000, 0xff00, 0xff, 0xff000000}
	return []file{
		{parts{size: 40, width: 1, height: 1, depth: 24, pixels: "\xff\xff\xff\x00"},
			image(1, 1, white), 0, 1 + 2 + 1 + 3},
		{parts{size: 12, width: 3, height: 2, depth: 1, table: "\x00\x00\xff\xff\x00\x00", pixels: "\xa0\x00\x00\x00\x5f\xff\xff\xff"},
			image(3, 2, red, blue, red, blue, red, blue), 2, 1 + 2 + 2 + 10},
		{parts{size: 12, width: 1, height: 2, depth: 24, gap: "gap", pixels: "\xff\x00\x00\x09\x00\x00\xff\x09"},
			image(1, 2, red, blue), 0, 1 + 2 + 1 + 6},
		{parts{size: 40, width: 3, height: -2, depth: 4, colors: 3, table: blackWhiteGreen, pixels: "\x01\x20\x00\x00\x21\x0f\xff\xff"},
			image(3, 2, black, white, green, green, white, black), 3, 1 + 2 + 3 + 12},
		{parts{size: 40, width: 2, height: 2, depth: 8, colors: 2, table: redBlue, gap: "a gap", pixels: "\x00\x01\xff\xff\x01\x01\xff\xff"},
			image(2, 2, blue, blue, red, blue), 2, 1 + 2 + 2 + 10},
		{parts{size: 40, width: 33, height: 1, depth: 1, table: redBlue, pixels: "\x00\x00\x00\x00\xff\x00\x00\x00"},
			image(33, 1, append(repeat(red, 32), blue)...), 2, 1 + 2 + 2 + 5 + 33 + 1},
		{parts{size: 40, width: 1, height: 2, depth: 16, pixels: "\x00\x7c\xff\xff\xff\x7f\xff\xff"},
			image(1, 2, white, red), 0, 1 + 2 + 1 + 6},
		{parts{size: 40, width: 2, height: 1, depth: 16, method: 3, masks: []int{0xf800, 0x7e0, 0x1f}, pixels: "\x00\xf8\xe0\x07"},
			image(2, 1, red, green), 0, 1 + 3 + 1 + 5},
		{parts{size: 40, width: 1, height: 1, depth: 32, method: 3, masks: []int{0xff, 0xff00, 0xff0000}, colors: 1, table: "none", gap: "!", pixels: "\x01\x02\x03\x04"},
			image(1, 1, color(1, 2, 3, 255)), 0, 1 + 3 + 1 + 3},
		{parts{size: 52, width: 1, height: -1, depth: 32, pixels: "\x01\x02\x03\x04"},
			image(1, 1, color(3, 2, 1, 255)), 0, 1 + 2 + 1 + 3},
		{parts{size: 56, width: 1, height: 2, depth: 32, method: 3, masks: straight, pixels: "\x01\x02\x03\x04\x05\x06\x07\x00"},
			image(1, 2, color(7, 6, 5, 0), color(3, 2, 1, 4)), 0, 1 + 2 + 1 + 6},
		{parts{size: 124, width: 2, height: 1, depth: 24, colors: 2, table: "12345678", gap: "!", pixels: "\x01\x02\x03\x04\x05\x06\x00\x00"},
			image(2, 1, color(3, 2, 1, 255), color(6, 5, 4, 255)), 0, 1 + 2 + 1 + 5},
		{parts{size: 108, width: 3, height: 2, depth: 8, method: 1, colors: 2, table: redBlue, pixels: "\x02\x01\x00\x00\x01\x00\x00\x01"},
			image(3, 2, red, none, none, blue, blue, none), 2, 1 + 2 + 2 + 7},
		{parts{size: 40, width: 5, height: 1, depth: 4, method: 2, colors: 3, table: blackWhiteGreen, gap: "xx", pixels: "\x00\x03\x01\x20\x02\x21\x00\x01"},
			image(5, 1, black, white, green, green, white), 3, 1 + 2 + 3 + 10},
	}
}

// repeat is a colour, n times.
func repeat(c api.Color, n int) (l []api.Color) {
	for range n {
		l = append(l, c)
	}
	return l
}

// told is what a call answers as an image, or what is wrong: the ledger keeps just the image's bytes more, or none.
func told(t *testing.T, s *src.Src, call func() (*raster.Raster, api.Fault)) (api.Image, api.Fault) {
	t.Helper()
	had := s.Ledger().Bytes()
	r, f := call()
	if f.Kind != api.NoFault {
		if r != nil || s.Ledger().Bytes() != had {
			t.Errorf("%+v: beside it %v, and %d bytes", f, r, s.Ledger().Bytes()-had)
		}
		return api.Image{}, f
	}
	if f != (api.Fault{}) {
		t.Errorf("no fault is %+v", f)
	}
	m, ok := r.Image()
	if !ok || !raster.Right(m) || s.Ledger().Bytes() != had+len(m.Pix) {
		t.Errorf("%d by %d, %t, of %d bytes: %d more are kept", m.Width, m.Height, ok, len(m.Pix), s.Ledger().Bytes()-had)
	}
	return m, f
}

// decode is the image of a source's file, or what is wrong.
func decode(t *testing.T, s *src.Src) (api.Image, api.Fault) {
	t.Helper()
	return told(t, s, func() (*raster.Raster, api.Fault) { return Decode(s) })
}

// expect holds a whole text against its image, or what is wrong.
func expect(t *testing.T, text string, m api.Image, f api.Fault) {
	t.Helper()
	got, g := decode(t, source(t, much, text))
	if g != f || !raster.Same(got, m) {
		t.Errorf("%.60q: %v, %+v, not %v, %+v", text, got, g, m, f)
	}
}

// P23.1: what stands ahead of a bitmap: the place that is told there, and what is wrong.
func TestBegin(t *testing.T) {
	for _, place := range []int{0, 1, 54, 255, 256, 1<<16 + 2, 1<<24 + 3<<8, 1<<31 - 1, 1 << 31, 1<<32 - 1, 0x04030201} {
		for _, from := range []int{0, 5} {
			s := source(t, much, "12345"[:from]+begin(place)+"behind")
			s.Seek(from)
			if got, f := Begin(s); got != place || f != (api.Fault{}) || s.At() != from+14 || s.Ledger().Steps() != 1 {
				t.Errorf("%d: %d, %+v, at %d", place, got, f, s.At())
			}
		}
	}
	whole := begin(54)
	for n := range whole {
		for _, text := range []string{whole[:n], strings.Repeat("x", n)} {
			if got, f := Begin(source(t, much, text)); got != 0 || f != wrong(api.Truncated, n) {
				t.Errorf("%q: %d, %+v", text, got, f)
			}
		}
	}
	if got, f := Begin(source(t, api.Budget{}, whole)); got != 0 || f != wrong(api.Spent, 0) {
		t.Errorf("without a step: %d, %+v", got, f)
	}
}

// P23.1: two letters, each of which no other byte stands for.
func TestLetters(t *testing.T) {
	for first := range 256 {
		for second := range 256 {
			want, place := api.Fault{}, 0
			switch {
			case first != 'B':
				want = wrong(api.Malformed, 2)
			case second != 'M':
				want = wrong(api.Malformed, 3)
			default:
				place = 7
			}
			s := source(t, much, "BM"+string([]byte{byte(first), byte(second)})+begin(7)[2:])
			s.Seek(2)
			if got, f := Begin(s); f != want || got != place {
				t.Errorf("%d, %d: %d, %+v", first, second, got, f)
			}
			s.Seek(2)
			if _, f := decode(t, s); want != (api.Fault{}) && f != want {
				t.Errorf("%d, %d: %+v", first, second, f)
			}
		}
	}
}

// P23.1: the chapter's example, and that of the whole.
func TestExamples(t *testing.T) {
	text, e := Write(image(1, 1, white), Options{Depth: 24})
	if e != api.OK || len(text) != 14+40+4 {
		t.Errorf("%q, %d", text, e)
	}
	expect(t, text, image(1, 1, white), api.Fault{})
	expect(t, "BM", api.Image{}, wrong(api.Truncated, 2))
}

// P23.1: files of all kinds; what stands behind isn't looked at.
func TestDecode(t *testing.T) {
	for _, x := range files() {
		for _, tail := range []string{"", "\x00", "\xff", "\x00\x01", "anything behind it"} {
			expect(t, x.text()+tail, x.m, api.Fault{})
		}
	}
}

// P23.1: a file that is cut off anywhere is Truncated at its end.
func TestCutOff(t *testing.T) {
	for _, x := range files() {
		text := x.text()
		for n := range len(text) {
			expect(t, text[:n], api.Image{}, wrong(api.Truncated, n))
		}
	}
}

// P23.1: a file is read from the source's place on, within what it goes over; the place of its pixels is counted from its first byte, those of faults in the source.
func TestFrom(t *testing.T) {
	for _, x := range files() {
		text := "BM\x01" + x.text() + "!"
		s := source(t, much, text)
		s.Seek(3)
		if m, f := decode(t, s); f != (api.Fault{}) || !raster.Same(m, x.m) || s.At() != len(text)-1 {
			t.Errorf("%q: %v, %+v, at %d", text, m, f, s.At())
		}
		w, _ := source(t, much, text).Window(3, len(x.text()))
		if m, f := decode(t, w); f != (api.Fault{}) || !raster.Same(m, x.m) {
			t.Errorf("%q: %v, %+v", text, m, f)
		}
		for n := range len(x.text()) {
			w, _ = source(t, much, text).Window(3, n)
			if _, f := decode(t, w); f != wrong(api.Truncated, 3+n) {
				t.Errorf("%q, %d bytes: %+v", text, n, f)
			}
		}
		w, _ = source(t, much, "BM\x01"+x.at(x.behind()-1)).Window(3, len(x.text()))
		if _, f := decode(t, w); f != wrong(api.Malformed, 13) {
			t.Errorf("%q: %+v", text, f)
		}
	}
}

// P23.1: what is wrong with a head, at its places.
func TestHead(t *testing.T) {
	for _, x := range []struct {
		at, v int
		f     api.Fault
	}{
		{14, 16, wrong(api.Unsupported, 14)},
		{14, 64, wrong(api.Unsupported, 14)},
		{14, 41, wrong(api.Malformed, 14)},
		{18, 0, wrong(api.Malformed, 18)},
		{19, 64, wrong(api.Unsupported, 18)},
		{22, 0, wrong(api.Malformed, 22)},
		{23, 65, wrong(api.Unsupported, 22)},
		{26, 2, wrong(api.Malformed, 26)},
		{28, 3, wrong(api.Unsupported, 28)},
		{30, 4, wrong(api.Unsupported, 30)},
		{30, 1, wrong(api.Malformed, 30)},
		{46, 0xff, wrong(api.Malformed, 10)},
		{47, 1, wrong(api.Malformed, 46)},
		{47, 2, wrong(api.Malformed, 46)},
	} {
		b := []byte(files()[0].text())
		b[x.at] = byte(x.v)
		if x.at == 47 {
			b[46] = 1
		}
		expect(t, string(b), api.Image{}, x.f)
		// The place of the pixels is asked behind all of the head.
		b[10] = 0
		expect(t, string(b), api.Image{}, x.f)
	}
	masks := parts{size: 40, width: 1, height: 1, depth: 32, method: 3, masks: []int{0xff0000, 0xff0100, 0xff}, pixels: "1234"}
	expect(t, masks.text(), api.Image{}, wrong(api.Malformed, 14+44))
}

// P23.1: the place of the pixels is that behind the table, or behind it; above the source's end it isn't.
func TestPixelsAt(t *testing.T) {
	for _, x := range files() {
		n := len(x.text())
		for place := range n + 9 {
			text := x.at(place)
			for _, g := range []api.Budget{much, {MaxWork: 99}} {
				m, f := decode(t, source(t, g, text))
				switch {
				case place < x.behind():
					if f != wrong(api.Malformed, 10) {
						t.Errorf("%.60q: %+v", text, f)
					}
				case place > n:
					if f != wrong(api.Truncated, n) {
						t.Errorf("%.60q: %+v", text, f)
					}
				case g != much:
					if f != wrong(api.Spent, 14+len(x.head())) {
						t.Errorf("%.60q: %+v", text, f)
					}
				case place == n:
					if f != wrong(api.Truncated, n) {
						t.Errorf("%.60q: %+v", text, f)
					}
				default:
					if want, h := layers(source(t, much, text)); f != h || !raster.Same(m, want) {
						t.Errorf("%.60q: %v, %+v, not %v, %+v", text, m, f, want, h)
					}
				}
			}
		}
		for _, place := range []int{1<<31 - 1, 1 << 31, 1<<32 - 1} {
			expect(t, x.at(place), api.Image{}, wrong(api.Truncated, n))
		}
	}
	// A table that ends behind the source's end: the place is asked first.
	cut := files()[4]
	text := cut.at(cut.behind() - 1)[:cut.behind()-3]
	expect(t, text, api.Image{}, wrong(api.Malformed, 10))
	text = cut.at(cut.behind())[:cut.behind()-3]
	expect(t, text, api.Image{}, wrong(api.Truncated, len(text)))
}

// P23.1: sides that the ledger doesn't let: Spent, behind the head and its masks; behind what is wrong with the place of the pixels.
func TestSides(t *testing.T) {
	for _, x := range files() {
		for _, g := range []api.Budget{
			{MaxWidth: x.m.Width - 1, MaxHeight: x.m.Height, MaxBytes: 9999, MaxWork: 9999},
			{MaxWidth: x.m.Width, MaxHeight: x.m.Height - 1, MaxBytes: 9999, MaxWork: 9999},
			{MaxWidth: x.m.Width, MaxHeight: x.m.Height, MaxBytes: len(x.m.Pix) - 1, MaxWork: 9999},
		} {
			s := source(t, g, x.text())
			if _, f := decode(t, s); f != wrong(api.Spent, 14+len(x.head())) || s.At() != f.At {
				t.Errorf("%.60q by %+v: %+v at %d", x.text(), g, f, s.At())
			}
		}
		least := api.Budget{MaxWidth: x.m.Width, MaxHeight: x.m.Height, MaxBytes: len(x.m.Pix) + 4*x.kept, MaxWork: x.steps}
		s := source(t, least, x.text())
		if m, f := decode(t, s); f != (api.Fault{}) || !raster.Same(m, x.m) || s.Ledger().Steps() != x.steps || s.Ledger().Peak() != least.MaxBytes {
			t.Errorf("%.60q by %+v: %v, %+v, %d steps", x.text(), least, m, f, s.Ledger().Steps())
		}
		for n := len(x.m.Pix); n < least.MaxBytes; n++ {
			g := much
			g.MaxBytes = n
			s := source(t, g, x.text())
			if _, f := decode(t, s); f != wrong(api.Spent, 14+len(x.head())) {
				t.Errorf("%.60q by %d bytes: %+v", x.text(), n, f)
			}
		}
	}
}

// P23.1: by each number of steps that aren't enough: Spent, at the source's place, and no bytes are kept.
func TestSteps(t *testing.T) {
	for _, x := range files() {
		for n := range x.steps {
			g := much
			g.MaxWork = n
			s := source(t, g, x.text())
			if _, f := decode(t, s); f != wrong(api.Spent, s.At()) || s.Ledger().Steps() != n {
				t.Errorf("%.60q by %d steps: %+v at %d", x.text(), n, f, s.At())
			}
		}
	}
}

// P23.1: what is wrong with rows, and with commands.
func TestPixels(t *testing.T) {
	l := files()
	bad := func(i int, pixels string, kind, at int) {
		t.Helper()
		x := l[i]
		x.pixels = pixels
		from := len(x.text()) - len(pixels)
		expect(t, x.text(), api.Image{}, wrong(kind, from+at))
	}
	bad(3, "\x01\x20\x00\x00\x23\x0f\xff\xff", api.Malformed, 4)
	bad(3, "\x01\x20\x00\x00\x21\x3f\xff\xff", api.Malformed, 5)
	bad(4, "\x00\x02\xff\xff\x01\x01\xff\xff", api.Malformed, 1)
	bad(12, "\x02\x02\x00\x01", api.Malformed, 1)
	bad(12, "\x02\x01\x02\x01\x00\x01", api.Malformed, 2)
	bad(12, "\x00\x02\x01\x03\x00\x01", api.Malformed, 0)
	bad(13, "\x06\x00\x00\x01", api.Malformed, 0)
	bad(13, "\x05\x03\x00\x01", api.Malformed, 1)
	bad(13, "\x05\x01\x00", api.Truncated, 3)
}

// P23.1: a raster is open, and another one has bytes of its own.
func TestOpen(t *testing.T) {
	x := files()[4]
	s := source(t, much, x.text())
	one, f := Decode(s)
	s.Seek(0)
	two, g := Decode(s)
	if f != (api.Fault{}) || g != f || s.Ledger().Bytes() != 2*len(x.m.Pix) {
		t.Fatalf("%+v, %+v, %d bytes", f, g, s.Ledger().Bytes())
	}
	one.Set(0, 0, white)
	if m, ok := two.Image(); !ok || !raster.Same(m, x.m) {
		t.Errorf("%v", m)
	}
	if !one.Free() || s.Ledger().Bytes() != len(x.m.Pix) {
		t.Errorf("%d bytes", s.Ledger().Bytes())
	}
}

// layers is what the layers below make of a file, by the chapter's words: its image, or what is wrong.
func layers(s *src.Src) (api.Image, api.Fault) {
	from := s.At()
	b, ok := s.Take(14)
	switch {
	case !ok:
		return api.Image{}, s.Fault(api.BMP)
	case b[0] != 'B':
		return api.Image{}, wrong(api.Malformed, from)
	case b[1] != 'M':
		return api.Image{}, wrong(api.Malformed, from+1)
	}
	h, f := dibhead.Read(s, api.BMP)
	if f.Kind != api.NoFault {
		return api.Image{}, f
	}
	place := int(binary.LittleEndian.Uint32([]byte(b[10:])))
	least := 14 + h.Size + 4*h.Colors
	if h.Size == 12 {
		least = 14 + h.Size + 3*h.Colors
	}
	if h.Size == 40 && h.Method == 3 {
		least += 12
	}
	switch {
	case place < least:
		return api.Image{}, wrong(api.Malformed, from+10)
	case from+place > s.To():
		return api.Image{}, wrong(api.Truncated, s.To())
	}
	return bitmap(s, h, from+place, api.BMP)
}

// bitmap is what the layers below make of a bitmap behind its head, whose pixels stand at a place.
func bitmap(s *src.Src, h dibhead.Head, at, format int) (api.Image, api.Fault) {
	r, e := raster.New(s.Ledger(), h.Width, h.Height)
	if e != api.OK {
		return api.Image{}, api.Fault{Kind: api.Spent, Format: format, At: s.At()}
	}
	p, f := dibrow.Table(s, h, format)
	if f.Kind != api.NoFault {
		return api.Image{}, f
	}
	if at > s.To() {
		return api.Image{}, api.Fault{Kind: api.Truncated, Format: format, At: s.To()}
	}
	if at >= 0 {
		s.Seek(at)
	}
	if h.Method == 1 || h.Method == 2 {
		f = dibrle.Read(s, h, p, r, format)
	} else {
		f = dibrow.Rows(s, h, p, h.Masks, r, format)
	}
	if f.Kind != api.NoFault {
		return api.Image{}, f
	}
	m, _ := r.Image()
	return m, f
}

// changed is a file's bytes with some others among them, perhaps cut off.
func changed(next func(n int) int, text string) string {
	b := []byte(text)
	for range 1 + next(3) {
		at := next(len(b))
		if next(2) == 0 {
			at = next(min(54, len(b)))
		}
		b[at] = []byte{0, 1, 2, 3, 4, 8, 16, 24, 32, 40, 54, 255, byte(next(256))}[next(13)]
	}
	if next(4) == 0 {
		b = b[:next(len(b)+1)]
	}
	return string(b)
}

// P23.1: files of which bytes are others, by any budget.
func TestChanged(t *testing.T) {
	next := random(23)
	l := files()
	for range 60000 {
		text := changed(next, l[next(len(l))].text())
		g := api.Budget{MaxWidth: 300, MaxHeight: 300, MaxBytes: 9999, MaxWork: 9999}
		if next(3) == 0 {
			g = api.Budget{MaxWidth: next(40), MaxHeight: next(9), MaxBytes: next(150), MaxWork: next(40)}
		}
		s, x := source(t, g, text), source(t, g, text)
		m, f := decode(t, s)
		if want, h := layers(x); f != h || !raster.Same(m, want) || s.Ledger().Steps() != x.Ledger().Steps() || s.Ledger().Peak() != x.Ledger().Peak() {
			t.Fatalf("%q by %+v: %v, %+v, not %v, %+v", text, g, m, f, want, h)
		}
		if f.At < 0 || f.At > len(text) || f.Kind < 0 || f.Kind > api.Spent {
			t.Fatalf("%q: %+v", text, f)
		}
	}
}

// body is a bitmap's image, or what is wrong, behind so many bytes and a head.
func body(t *testing.T, x parts, ahead string, g api.Budget, at int) (api.Image, api.Fault, *src.Src) {
	t.Helper()
	s := source(t, g, ahead+x.head()+x.table+x.gap+x.pixels)
	s.Seek(len(ahead))
	h, f := dibhead.Read(s, api.ICO)
	if f != (api.Fault{}) {
		t.Fatalf("%+v: %+v", x, f)
	}
	m, f := told(t, s, func() (*raster.Raster, api.Fault) { return Body(s, h, at, api.ICO) })
	return m, f, s
}

// P23.1: bitmaps behind their heads: right behind the table, by any number below 0, and from a place on, of any format.
func TestBody(t *testing.T) {
	for _, x := range files() {
		for _, ahead := range []string{"", "ahead of it"} {
			place := len(ahead) + x.behind() - 14 + len(x.gap)
			if m, f, s := body(t, x.parts, ahead, much, place); f != (api.Fault{}) || !raster.Same(m, x.m) || s.Left() != 0 {
				t.Errorf("%+v: %v, %+v", x, m, f)
			}
			y := x.parts
			y.gap = ""
			for _, at := range []int{-1, -2, -place, -1 << 32, math.MinInt} {
				if m, f, s := body(t, y, ahead, much, at); f != (api.Fault{}) || !raster.Same(m, x.m) || s.Left() != 0 {
					t.Errorf("%+v: %v, %+v", y, m, f)
				}
			}
			y.gap = y.pixels
			y.pixels += "\x00\x00\x00\x00"
			if m, f, s := body(t, y, ahead, much, -1); f != (api.Fault{}) || !raster.Same(m, x.m) || s.Left() != len(y.pixels) {
				t.Errorf("%+v: %v, %+v", y, m, f)
			}
		}
	}
}

// P23.1: pixels at all places of a source, also ahead of the table's end, and above the source's end.
func TestBodyAt(t *testing.T) {
	for _, x := range files() {
		whole := x.head() + x.table + x.gap + x.pixels
		for at := range len(whole) + 5 {
			m, f, s := body(t, x.parts, "", much, at)
			y := source(t, much, whole)
			h, _ := dibhead.Read(y, api.ICO)
			if want, g := bitmap(y, h, at, api.ICO); f != g || !raster.Same(m, want) || s.Ledger().Steps() != y.Ledger().Steps() {
				t.Errorf("%+v at %d: %v, %+v, not %v, %+v", x, at, m, f, want, g)
			}
			if at >= len(whole) && f != (api.Fault{Kind: api.Truncated, Format: api.ICO, At: len(whole)}) {
				t.Errorf("%+v at %d: %+v", x, at, f)
			}
		}
		for _, at := range []int{1 << 31, 1 << 32, math.MaxInt} {
			if _, f, s := body(t, x.parts, "ahead", much, at); f != (api.Fault{Kind: api.Truncated, Format: api.ICO, At: s.To()}) {
				t.Errorf("%+v at %d: %+v", x, at, f)
			}
		}
	}
}

// P23.1: of a bitmap the sides come ahead of the table, and that ahead of the pixels' place.
func TestBodyOrder(t *testing.T) {
	for _, x := range files() {
		head := len(x.head())
		spent := api.Fault{Kind: api.Spent, Format: api.ICO, At: head}
		whole := x.parts
		whole.gap, whole.pixels = "", ""
		for n := range len(x.table) {
			y := whole
			y.table = x.table[:n]
			for _, at := range []int{-1, 0, head, head + n, head + n + 1, math.MaxInt} {
				if _, f, _ := body(t, y, "", much, at); f != (api.Fault{Kind: api.Truncated, Format: api.ICO, At: head + n}) {
					t.Errorf("%+v at %d: %+v", y, at, f)
				}
				for _, g := range []api.Budget{
					{MaxWidth: x.m.Width - 1, MaxHeight: 99, MaxBytes: 9999, MaxWork: 9999},
					{MaxWidth: 99, MaxHeight: x.m.Height - 1, MaxBytes: 9999, MaxWork: 9999},
					{MaxWidth: 99, MaxHeight: 99, MaxBytes: len(x.m.Pix) - 1, MaxWork: 9999},
				} {
					if _, f, _ := body(t, y, "", g, at); f != spent {
						t.Errorf("%+v at %d by %+v: %+v", y, at, g, f)
					}
				}
			}
		}
		if x.kept == 0 {
			continue
		}
		g := api.Budget{MaxWidth: 99, MaxHeight: 99, MaxBytes: len(x.m.Pix) + 4*x.kept - 1, MaxWork: 9999}
		if _, f, s := body(t, whole, "", g, math.MaxInt); f != spent || s.Ledger().Peak() != len(x.m.Pix) {
			t.Errorf("%+v: %+v", x, f)
		}
		g.MaxBytes++
		if _, f, s := body(t, whole, "", g, math.MaxInt); f != (api.Fault{Kind: api.Truncated, Format: api.ICO, At: head + len(x.table)}) || s.Ledger().Peak() != g.MaxBytes {
			t.Errorf("%+v: %+v", x, f)
		}
	}
}

// P23.1: of heads that layer 20 doesn't tell, and of places that a window doesn't go over, no more is promised than that the call ends.
func TestEnds(t *testing.T) {
	for _, depth := range []int{math.MinInt, -8, 0, 1, 5, 8, 9, 24, 33, math.MaxInt} {
		for _, side := range []int{math.MinInt, 0, 1, 3, 20000, math.MaxInt} {
			for _, method := range []int{-1, 0, 1, 2, 3, 4} {
				for _, colors := range []int{math.MinInt, 0, 2, math.MaxInt} {
					h := dibhead.Head{Size: 40, Width: side, Height: 1, Depth: depth, Method: method, Colors: colors}
					w, _ := source(t, api.Budget{MaxWidth: 99, MaxHeight: 99, MaxBytes: 999, MaxWork: 999}, strings.Repeat("some bytes", 9)).Window(9, 50)
					for _, at := range []int{-1, 0, 8, 9, 60} {
						told(t, w, func() (*raster.Raster, api.Fault) { return Body(w, h, at, api.BMP) })
						w.Seek(9)
					}
				}
			}
		}
	}
	x := files()[0]
	w, _ := source(t, much, "ahead"+x.head()+x.pixels).Window(5, len(x.head())+4)
	h, _ := dibhead.Read(w, api.BMP)
	if _, f := told(t, w, func() (*raster.Raster, api.Fault) { return Body(w, h, 4, api.BMP) }); f.Kind == api.NoFault {
		t.Errorf("%+v", f)
	}
}

// expectFile holds what is written against the file's bytes.
func expectFile(t *testing.T, m api.Image, o Options, want string) {
	t.Helper()
	if text, e := Write(m, o); text != want || e != api.OK {
		t.Errorf("%+v: %q, %d, not %q", o, text, e, want)
	}
}

// expectNone holds what isn't written against why.
func expectNone(t *testing.T, m api.Image, o Options, want api.Errno) {
	t.Helper()
	if text, e := Write(m, o); text != "" || e != want {
		t.Errorf("%d by %d, %d bytes, %+v: %.60q, %d, not %d", m.Width, m.Height, len(m.Pix), o, text, e, want)
	}
}

// P23.1: files by hand, byte by byte.
func TestWriteByHand(t *testing.T) {
	const none16 = "\x00\x00\x00\x00\x00\x00\x00\x00\x00\x00\x00\x00\x00\x00\x00\x00"
	expectFile(t, image(1, 1, color(3, 2, 1, 255)), Options{Depth: 24},
		"BM\x3a\x00\x00\x00\x00\x00\x00\x00\x36\x00\x00\x00\x28\x00\x00\x00\x01\x00\x00\x00\x01\x00\x00\x00\x01\x00\x18\x00\x00\x00\x00\x00\x00\x00\x00\x00"+none16+
			"\x01\x02\x03\x00")
	expectFile(t, image(1, 2, red, color(3, 2, 1, 255)), Options{Depth: 32, Top: true},
		"BM\x3e\x00\x00\x00\x00\x00\x00\x00\x36\x00\x00\x00\x28\x00\x00\x00\x01\x00\x00\x00\xfe\xff\xff\xff\x01\x00\x20\x00\x00\x00\x00\x00\x00\x00\x00\x00"+none16+
			"\x00\x00\xff\xff\x01\x02\x03\xff")
	expectFile(t, image(1, 2, red, color(3, 2, 1, 4)), Options{Depth: 32, Masked: true},
		"BM\x4e\x00\x00\x00\x00\x00\x00\x00\x46\x00\x00\x00\x38\x00\x00\x00\x01\x00\x00\x00\x02\x00\x00\x00\x01\x00\x20\x00\x03\x00\x00\x00\x00\x00\x00\x00"+none16+
			"\x00\x00\xff\x00\x00\xff\x00\x00\xff\x00\x00\x00\x00\x00\x00\xff"+
			"\x01\x02\x03\x04\x00\x00\xff\xff")
	expectFile(t, image(3, 1, red, blue, red), Options{Depth: 1},
		"BM\x42\x00\x00\x00\x00\x00\x00\x00\x3e\x00\x00\x00\x28\x00\x00\x00\x03\x00\x00\x00\x01\x00\x00\x00\x01\x00\x01\x00\x00\x00\x00\x00\x00\x00\x00\x00"+
			"\x00\x00\x00\x00\x00\x00\x00\x00\x02\x00\x00\x00\x00\x00\x00\x00"+"\x00\x00\xff\x00\xff\x00\x00\x00"+
			"\x40\x00\x00\x00")
	expectFile(t, image(2, 2, red, blue, green, green), Options{Depth: 4, Packed: true},
		"BM\x4e\x00\x00\x00\x00\x00\x00\x00\x42\x00\x00\x00\x28\x00\x00\x00\x02\x00\x00\x00\x02\x00\x00\x00\x01\x00\x04\x00\x02\x00\x00\x00\x00\x00\x00\x00"+
			"\x00\x00\x00\x00\x00\x00\x00\x00\x03\x00\x00\x00\x00\x00\x00\x00"+"\x00\x00\xff\x00\xff\x00\x00\x00\x00\xff\x00\x00"+
			"\x02\x22\x00\x00\x01\x00\x01\x11\x00\x00\x00\x01")
	expectFile(t, image(1, 1, green), Options{Depth: 8, Packed: true},
		"BM\x40\x00\x00\x00\x00\x00\x00\x00\x3a\x00\x00\x00\x28\x00\x00\x00\x01\x00\x00\x00\x01\x00\x00\x00\x01\x00\x08\x00\x01\x00\x00\x00\x00\x00\x00\x00"+
			"\x00\x00\x00\x00\x00\x00\x00\x00\x01\x00\x00\x00\x00\x00\x00\x00"+"\x00\xff\x00\x00"+
			"\x01\x00\x00\x00\x00\x01")
}

// options are all by which files are written.
func options() (l []Options) {
	for _, depth := range []int{1, 4, 8, 24, 32} {
		for _, top := range []bool{false, true} {
			l = append(l, Options{Depth: depth, Top: top})
		}
	}
	return append(l, Options{Depth: 4, Packed: true}, Options{Depth: 8, Packed: true}, Options{Depth: 32, Masked: true}, Options{Depth: 32, Masked: true, Top: true})
}

// modelOf is a file by the chapter's words.
func modelOf(t *testing.T, m api.Image, o Options) string {
	t.Helper()
	p := parts{size: 40, width: m.Width, height: m.Height, depth: o.Depth}
	if o.Top {
		p.height = -p.height
	}
	var colors []api.Color
	rows := make([][]int, m.Height)
	for y := range m.Height {
		for x := range m.Width {
			c, _ := raster.Pixel(m, x, y)
			v := int(c.B) + int(c.G)<<8 + int(c.R)<<16
			if o.Depth == 32 {
				v += int(c.A) << 24
			}
			if o.Depth <= 8 {
				v = 0
				for v < len(colors) && colors[v] != c {
					v++
				}
				if v == len(colors) {
					colors = append(colors, c)
					p.table += string([]byte{c.B, c.G, c.R, 0})
				}
			}
			at := m.Height - 1 - y
			if o.Top {
				at = y
			}
			rows[at] = append(rows[at], v)
		}
	}
	p.colors = len(colors)
	var all []int
	for _, l := range rows {
		all = append(all, l...)
		s, e := dibrow.Pack(l, o.Depth)
		if e != api.OK {
			t.Fatalf("%+v: %d", o, e)
		}
		p.pixels += s
	}
	if o.Masked {
		p.size, p.method, p.masks = 56, 3, []int{0xff0000, 0xff00, 0xff, 0xff000000}
	}
	if o.Packed {
		p.method = map[int]int{4: 2, 8: 1}[o.Depth]
		p.pixels, _ = dibrle.Pack(all, m.Width, o.Depth)
	}
	text := p.text()
	return "BM" + le32(len(text), 0, p.behind()) + text[14:]
}

// some is an image that a file can be written of: of up to 8 bits it has no more colours than that, or all of them.
func some(next func(n int) int, width, height int, o Options) api.Image {
	var l []api.Color
	most := min(1<<o.Depth, 256)
	for len(l) < most {
		l = append(l, color(uint8(len(l)), uint8(next(256)), uint8(next(256)), 255))
	}
	l = l[:1+next(most)]
	m := api.Image{Width: width, Height: height}
	for len(m.Pix) < 4*width*height {
		c := l[next(len(l))]
		if o.Depth > 8 {
			c = color(uint8(next(256)), uint8(next(256)), uint8(next(256)), 255)
		}
		if o.Masked {
			c.A = uint8(next(256))
		}
		for range 1 + next(3)*next(9) {
			if len(m.Pix) < 4*width*height {
				m.Pix = append(m.Pix, c.R, c.G, c.B, c.A)
			}
		}
	}
	return m
}

// P23.1, P23.2: images of any sides and colours, by all options: the file, byte by byte, which is decoded as it was.
func TestWrite(t *testing.T) {
	next := random(5)
	for _, o := range options() {
		for range 300 {
			m := some(next, 1+next(40), 1+next(12), o)
			had := raster.Clone(m)
			expectFile(t, m, o, modelOf(t, m, o))
			if !raster.Same(m, had) {
				t.Errorf("%+v: the image is another one", o)
			}
			back(t, m, o)
		}
	}
}

// back holds what a file that is written is decoded as against what it was written of.
func back(t *testing.T, m api.Image, o Options) {
	t.Helper()
	text, e := Write(m, o)
	if e != api.OK {
		t.Fatalf("%d by %d, %+v: %d", m.Width, m.Height, o, e)
	}
	got, f := decode(t, source(t, much, text))
	if f != (api.Fault{}) || !raster.Same(got, m) {
		t.Errorf("%d by %d, %+v: %+v, or another image", m.Width, m.Height, o, f)
	}
	s := source(t, much, text)
	if place, f := Begin(s); f != (api.Fault{}) || place < 54 || binary.LittleEndian.Uint32([]byte(text[2:])) != uint32(len(text)) {
		t.Errorf("%+v: %d, %+v", o, place, f)
	}
}

// P23.1, P23.2: as many colours as there may be, told as their number; one more isn't written.
func TestColors(t *testing.T) {
	for _, depth := range []int{1, 4, 8} {
		for _, o := range []Options{{Depth: depth}, {Depth: depth, Top: true}, {Depth: depth, Packed: true}} {
			if o.Packed && depth == 1 {
				continue
			}
			for n := 1; n <= 1<<depth; n++ {
				m := image(n, 1)
				for i := range n {
					m.Pix = append(m.Pix, 7, byte(n-i), byte(i), 255)
				}
				text, e := Write(m, o)
				if e != api.OK || binary.LittleEndian.Uint32([]byte(text[46:])) != uint32(n) || binary.LittleEndian.Uint32([]byte(text[10:])) != uint32(54+4*n) {
					t.Errorf("%+v, %d colours: %d", o, n, e)
				}
				expectFile(t, m, o, modelOf(t, m, o))
				back(t, m, o)
			}
			m := image(1<<depth+1, 1)
			for i := range m.Width {
				m.Pix = append(m.Pix, byte(i), byte(i>>8), 0, 255)
			}
			expectNone(t, m, o, api.ErrForm)
			m.Width, m.Height = 1, m.Width
			expectNone(t, m, o, api.ErrForm)
			copy(m.Pix[len(m.Pix)-4:], m.Pix[:4])
			back(t, m, o)
		}
	}
}

// P23.1: options by which there are no files, ahead of all else that is wrong.
func TestWriteArg(t *testing.T) {
	right := map[Options]bool{}
	for _, o := range options() {
		right[o] = true
	}
	images := []api.Image{image(1, 1, black), image(1, 1, none), {}, {Width: -1, Height: 1}}
	for _, depth := range []int{math.MinInt, -32, -1, 0, 1, 2, 3, 4, 5, 7, 8, 9, 15, 16, 17, 23, 24, 25, 31, 32, 33, 64, 1<<32 + 8, math.MaxInt} {
		for bits := range 8 {
			o := Options{Depth: depth, Packed: bits&1 != 0, Masked: bits&2 != 0, Top: bits&4 != 0}
			for i, m := range images {
				switch {
				case !right[o]:
					expectNone(t, m, o, api.ErrArg)
				case i > 1:
					expectNone(t, m, o, api.ErrSize)
				case i == 1 && !o.Masked:
					expectNone(t, m, o, api.ErrForm)
				default:
					back(t, m, o)
				}
			}
		}
	}
}

// P23.1: images that aren't right, whatever their pixels are.
func TestWriteSize(t *testing.T) {
	for _, m := range []api.Image{
		{Width: 1, Height: 1, Pix: make([]byte, 3)},
		{Width: 1, Height: 1, Pix: make([]byte, 5)},
		{Width: 0, Height: 1},
		{Width: 1, Height: 0},
		{Width: -1, Height: -1, Pix: make([]byte, 4)},
		{Width: api.MaxSide + 1, Height: 1, Pix: make([]byte, 4*api.MaxSide+4)},
		{Width: 1, Height: api.MaxSide + 1, Pix: make([]byte, 4*api.MaxSide+4)},
		{Width: math.MaxInt, Height: math.MaxInt},
		{Width: 1 << 62, Height: 4},
	} {
		for _, o := range options() {
			expectNone(t, m, o, api.ErrSize)
		}
	}
}

// P23.1: a pixel that isn't solid, wherever it stands.
func TestWriteForm(t *testing.T) {
	for _, o := range options() {
		for at := range 6 {
			for _, a := range []byte{0, 1, 127, 254} {
				m := image(3, 2, repeat(black, 6)...)
				m.Pix[4*at+3] = a
				if o.Masked {
					back(t, m, o)
				} else {
					expectNone(t, m, o, api.ErrForm)
				}
			}
		}
	}
}

// P23.2: the greatest sides.
func TestGreat(t *testing.T) {
	for _, o := range options() {
		for _, m := range []api.Image{{Width: api.MaxSide, Height: 2}, {Width: 2, Height: api.MaxSide}} {
			for i := range m.Width * m.Height {
				m.Pix = append(m.Pix, byte(i>>9&1), 0, 0, 255)
			}
			back(t, m, o)
		}
	}
}

// P23.1: tables of all lengths are given back, also behind rows that have a fault.
func TestTable(t *testing.T) {
	for n := 1; n <= 256; n++ {
		x := parts{size: 40, width: 1, height: 1, depth: 8, colors: n % 256, table: strings.Repeat("abcd", n), pixels: string([]byte{byte(n - 1), 0, 0, 0})}
		s := source(t, much, x.text())
		if m, f := decode(t, s); f != (api.Fault{}) || !raster.Same(m, image(1, 1, color('c', 'b', 'a', 255))) || s.Ledger().Peak() != 4+4*n {
			t.Errorf("%d: %v, %+v, %d bytes", n, m, f, s.Ledger().Peak())
		}
		if n < 256 {
			x.pixels = string([]byte{byte(n), 0, 0, 0})
			expect(t, x.text(), api.Image{}, wrong(api.Malformed, x.behind()))
		}
	}
}
