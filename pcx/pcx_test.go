package pcx

import (
	"encoding/binary"
	"fmt"
	"math"
	"strconv"
	"strings"
	"testing"

	"tintype/api"
	"tintype/ledger"
	"tintype/raster"
	"tintype/src"
)

// much is a budget that lets everything.
var much = api.Budget{MaxWidth: math.MaxInt, MaxHeight: math.MaxInt, MaxBytes: math.MaxInt, MaxWork: math.MaxInt}

// pairs are all bits and planes that pixels may have.
var pairs = []Options{{8, 3}, {8, 1}, {1, 1}, {1, 4}}

// random tells numbers below n, of a seed of its own.
func random(seed uint64) func(n int) int {
	return func(n int) int {
		seed = seed*6364136223846793005 + 1442695040888963407
		return int(seed>>33) % n
	}
}

func source(t *testing.T, g api.Budget, text string) *src.Src {
	t.Helper()
	s, e := src.New(ledger.New(g), text)
	if e != api.OK {
		t.Fatalf("no source: %d", e)
	}
	return s
}

func bad(kind, at int) api.Fault {
	return api.Fault{Kind: kind, Format: api.PCX, At: at}
}

// image is one of such channels, R, G and B of each pixel.
func image(width, height int, l ...byte) api.Image {
	m := api.Image{Width: width, Height: height}
	for i := 0; i < len(l); i += 3 {
		m.Pix = append(m.Pix, l[i], l[i+1], l[i+2], 255)
	}
	return m
}

// greys is an image of pixels whose channels are one.
func greys(width, height int, l ...byte) api.Image {
	m := api.Image{Width: width, Height: height}
	for _, v := range l {
		m.Pix = append(m.Pix, v, v, v, 255)
	}
	return m
}

// parts are what a head is made of.
type parts struct {
	version, bits, planes, line int
	left, top, right, bottom    int
	entries                     string
}

// of is the parts of a head with such sides, whose lines have so many bytes more than pixels need.
func of(o Options, width, height, more int) parts {
	return parts{version: 5, bits: o.Bits, planes: o.Planes, line: (width*o.Bits+7)/8 + more, right: width - 1, bottom: height - 1}
}

// head is the bytes of one; what isn't looked at is there, too.
func (p parts) head() string {
	b := []byte(strings.Repeat("\xee", 128))
	b[0], b[1], b[2], b[3], b[65] = 10, byte(p.version), 1, byte(p.bits), byte(p.planes)
	for i, v := range []int{p.left, p.top, p.right, p.bottom} {
		binary.LittleEndian.PutUint16(b[4+2*i:], uint16(v))
	}
	binary.LittleEndian.PutUint16(b[66:], uint16(p.line))
	copy(b[16:64], p.entries)
	return string(b)
}

// end is the entries at a source's end, behind what stands ahead of them: those that are told, others of 33 34 35.
func end(entries string) string {
	return "\x0c" + entries + strings.Repeat("345", 256-len(entries)/3)
}

// decode is the image of a source's file, or what is wrong. Its ledger keeps just the bytes of the image more, or none.
func decode(t *testing.T, s *src.Src) (api.Image, api.Fault) {
	t.Helper()
	had := s.Ledger().Bytes()
	r, f := Decode(s)
	if f.Kind != api.NoFault {
		if r != nil || s.Ledger().Bytes() != had {
			t.Errorf("%+v: beside it %v, and %d bytes", f, r, s.Ledger().Bytes()-had)
		}
		return api.Image{}, f
	}
	if f != (api.Fault{}) {
		t.Errorf("no fault is %+v", f)
	}
	m, ok := r.Image()
	if !ok || !raster.Right(m) || s.Ledger().Bytes() != had+len(m.Pix) {
		t.Errorf("%d by %d, %t, of %d bytes: %d more are kept", m.Width, m.Height, ok, len(m.Pix), s.Ledger().Bytes()-had)
	}
	return m, f
}

// brief is what is told of a text in a test's words: of its head what is looked at, and some of what stands behind it.
func brief(text string) string {
	if len(text) < 128 {
		return strconv.Quote(text)
	}
	return fmt.Sprintf("%x .. %x .. %x, of %d bytes", text[:12], text[65:68], text[128:min(len(text), 180)], len(text))
}

// expect holds a whole text against its image, or what is wrong.
func expect(t *testing.T, text string, m api.Image, f api.Fault) {
	t.Helper()
	got, g := decode(t, source(t, much, text))
	if g != f || !raster.Same(got, m) {
		t.Errorf("%s: %v, %+v, not %v, %+v", brief(text), got, g, m, f)
	}
}

// cursor reads a text as layer 5 does, up to an end, by so many steps.
type cursor struct {
	text        string
	at, end     int
	steps, most int
	kept, peak  int
}

// work does a step; what is wrong, if it isn't let.
func (c *cursor) work(at int) api.Fault {
	if c.steps == c.most {
		return bad(api.Spent, at)
	}
	c.steps++
	return api.Fault{}
}

// byte is the next one.
func (c *cursor) byte() (int, api.Fault) {
	if f := c.work(c.at); f.Kind != 0 {
		return 0, f
	}
	if c.at == c.end {
		return 0, bad(api.Truncated, c.end)
	}
	c.at++
	return int(c.text[c.at-1]), api.Fault{}
}

// keep keeps n bytes more, of a budget.
func (c *cursor) keep(g api.Budget, n int) bool {
	if c.kept+n > g.MaxBytes {
		return false
	}
	c.kept += n
	c.peak = c.kept
	return true
}

// modelHead is what a file's head tells, or what is wrong with it.
func modelHead(c *cursor) (h Head, f api.Fault) {
	from := c.at
	if f := c.work(c.at); f.Kind != 0 {
		return h, f
	}
	if c.end-from < 128 {
		return h, bad(api.Truncated, c.end)
	}
	b := []byte(c.text[from : from+128])
	c.at += 128
	two := func(i int) int { return int(b[i]) + 256*int(b[i+1]) }
	if b[0] != 10 {
		return h, bad(api.Malformed, from)
	}
	if !strings.Contains("\x00\x02\x03\x04\x05", string(b[1:2])) {
		return h, bad(api.Unsupported, from+1)
	}
	if b[2] != 1 {
		return h, bad(api.Unsupported, from+2)
	}
	for i := range 2 {
		least, greatest := two(4+2*i), two(8+2*i)
		if greatest < least {
			return h, bad(api.Malformed, from+8+2*i)
		}
		if greatest-least >= 16384 {
			return h, bad(api.Unsupported, from+8+2*i)
		}
	}
	width, height := two(8)-two(4)+1, two(10)-two(6)+1
	pair := false
	for _, o := range pairs {
		pair = pair || int(b[3]) == o.Bits && int(b[65]) == o.Planes
	}
	if !pair {
		return h, bad(api.Unsupported, from+65)
	}
	needed := map[bool]int{true: width, false: (width + 7) / 8}[b[3] == 8]
	if two(66) < needed || two(66) > needed+3 {
		return h, bad(api.Malformed, from+66)
	}
	if b[3] == 8 && b[65] == 1 {
		mark := c.end - 769
		if mark < c.at {
			return h, bad(api.Truncated, c.end)
		}
		if f := c.work(mark); f.Kind != 0 {
			return h, f
		}
		if c.text[mark] != 0x0c {
			return h, bad(api.Malformed, mark)
		}
	}
	return Head{Width: width, Height: height, Bits: int(b[3]), Planes: int(b[65]), Line: two(66)}, api.Fault{}
}

// modelRow is the bytes of the next row, of so many.
func modelRow(c *cursor, size int) ([]byte, api.Fault) {
	var row []byte
	for len(row) < size {
		at := c.at
		v, f := c.byte()
		n := 1
		if f.Kind == 0 && v >= 192 {
			n = v - 192
			v, f = c.byte()
		}
		if f.Kind != 0 {
			return nil, f
		}
		if n == 0 || len(row)+n > size {
			return nil, bad(api.Malformed, at)
		}
		for range n {
			row = append(row, byte(v))
		}
	}
	return row, api.Fault{}
}

// modelPixel is R, G and B of a row's pixel.
func modelPixel(h Head, row []byte, x int, inHead, atEnd string) []byte {
	if h.Bits == 8 && h.Planes == 3 {
		return []byte{row[x], row[h.Line+x], row[2*h.Line+x]}
	}
	if h.Bits == 8 {
		return []byte(atEnd[3*int(row[x]):][:3])
	}
	n := 0
	for plane := h.Planes - 1; plane >= 0; plane-- {
		n = 2*n + int(row[plane*h.Line+x/8])>>(7-x%8)%2
	}
	if h.Planes == 1 {
		return []byte{byte(255 * n), byte(255 * n), byte(255 * n)}
	}
	return []byte(inHead[3*n:][:3])
}

// model is what the chapter's words make of a source that goes over a text from a place up to another one, by a budget.
func model(g api.Budget, text string, from, to int) (api.Image, api.Fault, *cursor) {
	c := &cursor{text: text, at: from, end: to, most: max(g.MaxWork, 0)}
	h, f := modelHead(c)
	if f.Kind != 0 {
		return api.Image{}, f, c
	}
	if h.Width > g.MaxWidth || h.Height > g.MaxHeight || !c.keep(g, 4*h.Width*h.Height) {
		return api.Image{}, bad(api.Spent, c.at), c
	}
	numbered := h.Bits == 8 && h.Planes == 1
	if numbered && !c.keep(g, 1024) || !c.keep(g, h.Planes*h.Line) {
		return api.Image{}, bad(api.Spent, c.at), c
	}
	inHead, atEnd := text[from+16:from+64], ""
	if numbered {
		for i := range 256 {
			at := to - 768 + 3*i
			if f := c.work(at); f.Kind != 0 {
				return api.Image{}, f, c
			}
			atEnd += text[at : at+3]
		}
		c.end -= 769
	}
	m := api.Image{Width: h.Width, Height: h.Height}
	for range h.Height {
		row, f := modelRow(c, h.Planes*h.Line)
		if f.Kind != 0 {
			return api.Image{}, f, c
		}
		for x := range h.Width {
			if f := c.work(c.at); f.Kind != 0 {
				return api.Image{}, f, c
			}
			m.Pix = append(append(m.Pix, modelPixel(h, row, x, inHead, atEnd)...), 255)
		}
	}
	return m, api.Fault{}, c
}

// same holds a text from a place on against the model, by a budget.
func same(t *testing.T, g api.Budget, text string, from int) (api.Image, api.Fault) {
	t.Helper()
	s := source(t, g, text)
	s.Seek(from)
	return sameSource(t, s, g, text)
}

// sameSource holds the file of a source over a text against the model, by its budget, of which nothing was used.
func sameSource(t *testing.T, s *src.Src, g api.Budget, text string) (api.Image, api.Fault) {
	t.Helper()
	from := s.At()
	m, f := decode(t, s)
	want, h, c := model(g, text, from, s.To())
	if f != h || !raster.Same(m, want) || s.Ledger().Steps() != c.steps || s.Ledger().Peak() != c.peak {
		t.Errorf("%s from %d on, by %+v: %v, %+v, %d steps, %d bytes, not %v, %+v, %d, %d", brief(text), from, g, m, f, s.Ledger().Steps(), s.Ledger().Peak(), want, h, c.steps, c.peak)
	}
	if f.Kind == 0 && s.At() != c.at {
		t.Errorf("%s from %d on: at %d, not %d", brief(text), from, s.At(), c.at)
	}
	return m, f
}

// file is one, its image, how many steps it needs, and how many bytes are kept beside the image.
type file struct {
	text string
	m    api.Image
	work int
	kept int
}

// rows is where those of a file end.
func (x file) rows() int {
	if x.numbered() {
		return len(x.text) - 769
	}
	return len(x.text)
}

// numbered tells whether a file has entries at its end.
func (x file) numbered() bool { return x.text[3] == 8 && x.text[65] == 1 }

// files are some of all bits and planes, by hand; each ends with the last byte that is looked at.
func files() []file {
	sixteen := ""
	for i := range 16 {
		sixteen += string([]byte{byte(i), byte(16 + i), byte(200 + i)})
	}
	odd := of(Options{8, 3}, 2, 2, 1)
	odd.left, odd.right, odd.top, odd.bottom, odd.version = 300, 301, 65534, 65535, 0
	tabled := of(Options{1, 4}, 3, 2, 1)
	tabled.entries, tabled.version = sixteen, 2
	wide := of(Options{1, 4}, 9, 1, 0)
	wide.entries, wide.version = sixteen, 3
	bits := of(Options{1, 1}, 10, 2, 0)
	bits.version = 4
	return []file{
		{of(Options{8, 3}, 1, 1, 0).head() + "\x01\x02\x03", image(1, 1, 1, 2, 3), 1 + 3 + 1, 3},
		// Packets go on over the planes, but not over the rows; the third byte of each line is no pixel's.
		{odd.head() + "\x01\x02\xc2\x03\x04\x1e\x07\x08\xc1\xff" + "\xc9\xc0", image(2, 2, 1, 3, 7, 2, 4, 8, 192, 192, 192, 192, 192, 192), 1 + 10 + 2 + 2 + 2, 9},
		{of(Options{8, 1}, 3, 1, 0).head() + "\x01\xc1\xff\x00" + end("\x09\x08\x07\x06\x05\x04"), image(3, 1, 6, 5, 4, 51, 52, 53, 9, 8, 7), 1 + 1 + 256 + 4 + 3, 1024 + 3},
		{of(Options{8, 1}, 1, 2, 3).head() + "\xc4\x00\x02\xc3\x01" + end("\x0c\x0b\x0a"), image(1, 2, 12, 11, 10, 51, 52, 53), 1 + 1 + 256 + 2 + 1 + 3 + 1, 1024 + 4},
		{of(Options{1, 1}, 1, 1, 0).head() + "\x80", greys(1, 1, 255), 1 + 1 + 1, 1},
		{of(Options{1, 1}, 3, 1, 1).head() + "\x5f\xc1\xff", greys(3, 1, 0, 255, 0), 1 + 3 + 3, 2},
		{bits.head() + "\xc1\xf1\x7f\xc2\x81", greys(10, 2, 255, 255, 255, 255, 0, 0, 0, 255, 0, 255, 255, 0, 0, 0, 0, 0, 0, 255, 255, 0), 1 + 3 + 10 + 2 + 10, 2},
		// Of the first row the bits are 1 0 1, 0 1 1, 0 0 1, 1 1 0: the numbers 9, 10, 7; each second byte of a line is no pixel's.
		{tabled.head() + "\xc1\xa0\x00\x60\x00\x20\x00\xc1\xc0\x00" + "\xc8\x40", image(3, 2, 9, 25, 209, 10, 26, 210, 7, 23, 207, 0, 16, 200, 15, 31, 215, 0, 16, 200), 1 + 10 + 3 + 2 + 3, 8},
		// The last pixel stands in each plane's second byte: of the first and of the third plane it is 1, so its number is 5.
		{wide.head() + "\x00\xc1\x80\x00\x7f\xc2\xff\x01\x00", image(9, 1, 4, 20, 204, 4, 20, 204, 4, 20, 204, 4, 20, 204, 4, 20, 204, 4, 20, 204, 4, 20, 204, 12, 28, 212, 5, 21, 205), 1 + 9 + 9, 8},
	}
}

// P28.1: the chapter's example.
func TestExample(t *testing.T) {
	if got := Pack("\x0a\x0a\x0a\xc5"); got != "\xc3\x0a\xc1\xc5" {
		t.Errorf("%x", got)
	}
}

// P28.1: files by hand, of all versions; what isn't looked at changes nothing.
func TestDecode(t *testing.T) {
	for _, x := range files() {
		expect(t, x.text, x.m, api.Fault{})
		for _, version := range []byte{0, 2, 3, 4, 5} {
			for at := range 128 {
				b := []byte(x.text)
				b[1] = version
				seen := at < 4 || at >= 16 && at < 64 && b[65] == 4 || at >= 65 && at < 68
				if at >= 4 && at < 12 || seen {
					continue
				}
				for _, v := range []byte{0, 1, 10, 255} {
					b[at] = v
					expect(t, string(b), x.m, api.Fault{})
				}
			}
		}
		same(t, much, x.text, 0)
		// Behind the rows, of 8 bits and one plane ahead of the entries, stands what isn't looked at.
		for _, more := range []string{"\x00", "\x0c", "\xff\xc0", x.text} {
			text := x.text[:x.rows()] + more + x.text[x.rows():]
			expect(t, text, x.m, api.Fault{})
			same(t, much, text, 0)
		}
	}
}

// P28.1: a text is a file's by its first four bytes, whatever stands behind them.
func TestIs(t *testing.T) {
	for _, x := range files() {
		for n := range len(x.text) {
			if Is(x.text[:n]) != (n >= 4) {
				t.Errorf("%.10q, of %d", x.text, n)
			}
		}
	}
	for i := range 4 {
		for _, s := range []string{"\x0a\x05\x01\x08", "\x0a\x00\x01\x01"} {
			for v := range 256 {
				b := []byte(s)
				b[i] = byte(v)
				want := map[int]string{0: "\x0a", 1: "\x00\x02\x03\x04\x05", 2: "\x01", 3: "\x01\x08"}[i]
				if Is(string(b)) != strings.ContainsRune(want, rune(v)) {
					t.Errorf("%x", b)
				}
			}
		}
	}
	for _, s := range []string{"", "\x0a", "\x0a\x05\x01", "\x05\x01\x08", " \x0a\x05\x01\x08", "BM", "farbfeld"} {
		if Is(s) {
			t.Errorf("%q is one", s)
		}
	}
}

// headOfText holds a head against the model; the place is behind it, if nothing is wrong.
func headOfText(t *testing.T, g api.Budget, text string, from int) (Head, api.Fault) {
	t.Helper()
	s := source(t, g, text)
	s.Seek(from)
	h, f := Read(s)
	c := &cursor{text: text, at: from, end: len(text), most: max(g.MaxWork, 0)}
	want, wrong := modelHead(c)
	if h != want || f != wrong || s.Ledger().Steps() != c.steps || f.Kind == 0 && s.At() != from+128 {
		t.Errorf("%s from %d on: %+v, %+v, %d steps, at %d, not %+v, %+v, %d", brief(text), from, h, f, s.Ledger().Steps(), s.At(), want, wrong, c.steps)
	}
	if s.Ledger().Peak() != 0 {
		t.Errorf("%s: %d bytes were kept", brief(text), s.Ledger().Peak())
	}
	return h, f
}

// P28.1: each byte of a head, and any several, changed; cut off anywhere, and from a place on.
func TestHead(t *testing.T) {
	for _, x := range files() {
		for i := range 128 {
			for v := range 256 {
				b := []byte(x.text)
				b[i] = byte(v)
				headOfText(t, much, string(b), 0)
				headOfText(t, much, "any"+string(b)+"!", 3)
			}
		}
		for n := range 128 {
			if _, f := headOfText(t, much, x.text[:n], 0); f != bad(api.Truncated, n) {
				t.Errorf("%d bytes: %+v", n, f)
			}
			headOfText(t, much, "x"+x.text[:n], 1)
			headOfText(t, much, strings.Repeat("x", n), 0)
		}
		if _, f := headOfText(t, api.Budget{}, x.text, 0); f != bad(api.Spent, 0) {
			t.Errorf("no step: %+v", f)
		}
	}
	next := random(28)
	l := files()
	for range 30000 {
		b := []byte(l[next(len(l))].text)
		for range 2 + next(4) {
			at := []int{0, 1, 2, 3, 4, 5, 6, 7, 8, 9, 10, 11, 65, 66, 67}[next(15)]
			b[at] = "\x00\x01\x02\x03\x04\x05\x08\x0a\x40\x80\xff"[next(11)]
		}
		headOfText(t, much, string(b), 0)
		same(t, api.Budget{MaxWork: 9}, string(b), 0)
	}
}

// P28.1: columns and rows about the ends of what they may be; what the ledger lets isn't asked.
func TestSides(t *testing.T) {
	numbers := []int{0, 1, 2, 16382, 16383, 16384, 16385, 40000, 65534, 65535}
	g := api.Budget{MaxWork: 1}
	side := func(least, greatest, at int) api.Fault {
		switch {
		case greatest < least:
			return bad(api.Malformed, at)
		case greatest-least+1 > 16384:
			return bad(api.Unsupported, at)
		}
		return api.Fault{}
	}
	for _, left := range numbers {
		for _, right := range numbers {
			for _, top := range numbers {
				for _, bottom := range numbers {
					p := parts{version: 5, bits: 1, planes: 4, left: left, right: right, top: top, bottom: bottom, line: max(right-left+8, 0) / 8}
					h, f := headOfText(t, g, p.head(), 0)
					want := side(left, right, 8)
					if want.Kind == 0 {
						want = side(top, bottom, 10)
					}
					if f != want || f.Kind == 0 && h != (Head{right - left + 1, bottom - top + 1, 1, 4, p.line}) || f.Kind != 0 && h != (Head{}) {
						t.Errorf("%+v: %+v, %+v", p, h, f)
					}
				}
			}
		}
	}
}

// P28.1: all bits and planes.
func TestPairs(t *testing.T) {
	for bits := range 256 {
		for planes := range 256 {
			p := parts{version: 5, bits: bits, planes: planes, line: 2}
			want := bad(api.Unsupported, 65)
			if bits == 8 && planes == 3 || bits == 1 && (planes == 1 || planes == 4) {
				want = api.Fault{}
			}
			text := p.head() + "\xc8\x00"
			if bits == 8 && planes == 1 {
				want = bad(api.Truncated, len(text))
			}
			if _, f := headOfText(t, much, text, 0); f != want {
				t.Errorf("%d, %d: %+v", bits, planes, f)
			}
		}
	}
}

// P28.1: lines of all lengths, of all widths up to some, and of the greatest.
func TestLines(t *testing.T) {
	for _, o := range pairs {
		for _, width := range []int{1, 2, 3, 7, 8, 9, 15, 16, 17, 24, 25, 63, 64, 65, 255, 256, 257, 16377, 16383, 16384} {
			needed := map[int]int{1: (width + 7) / 8, 8: width}[o.Bits]
			for _, line := range []int{0, 1, needed - 2, needed - 1, needed, needed + 1, needed + 2, needed + 3, needed + 4, needed + 5, needed + 256, 65535} {
				p := of(o, width, 1, 0)
				p.line = max(line, 0)
				want := api.Fault{}
				if p.line < needed || p.line > needed+3 {
					want = bad(api.Malformed, 66)
				}
				if h, f := headOfText(t, much, p.head()+end(""), 0); f != want || f.Kind == 0 && h != (Head{width, 1, o.Bits, o.Planes, p.line}) {
					t.Errorf("%+v: %+v, %+v", p, h, f)
				}
			}
		}
	}
}

// P28.1: of 8 bits and one plane 769 bytes must stand behind the head, of which the first is what it must be.
func TestMark(t *testing.T) {
	begin := of(Options{8, 1}, 1, 1, 0).head()
	for n := range 769 {
		text := begin + strings.Repeat("\x0c", n)
		if _, f := headOfText(t, much, text, 0); f != bad(api.Truncated, 128+n) {
			t.Errorf("%d: %+v", n, f)
		}
		// Without a second step it isn't Spent: nothing is read.
		if _, f := headOfText(t, api.Budget{MaxWork: 1}, text, 0); f != bad(api.Truncated, 128+n) {
			t.Errorf("%d: %+v", n, f)
		}
	}
	for v := range 256 {
		for _, rows := range []string{"", "\x00", "\x0c\x0c\x0c"} {
			for _, ahead := range []string{"", "some"} {
				text := ahead + begin + rows + string([]byte{byte(v)}) + end("")[1:]
				want := api.Fault{}
				if v != 12 {
					want = bad(api.Malformed, len(ahead)+128+len(rows))
				}
				if _, f := headOfText(t, much, text, len(ahead)); f != want {
					t.Errorf("%d: %+v", v, f)
				}
				if _, f := headOfText(t, api.Budget{MaxWork: 1}, text, len(ahead)); f != bad(api.Spent, len(ahead)+128+len(rows)) {
					t.Errorf("%d: %+v", v, f)
				}
			}
		}
	}
	// A window ends ahead of its text, and the entries stand at its end; bytes ahead of the file aren't looked at.
	x := files()[2]
	w, _ := source(t, much, end("")+x.text+end("")).Window(769, len(x.text))
	if m, f := sameSource(t, w, much, end("")+x.text+end("")); f != (api.Fault{}) || !raster.Same(m, x.m) {
		t.Errorf("a window: %v, %+v", m, f)
	}
	s := source(t, much, end("")+begin+"\x00")
	s.Seek(769)
	if _, f := sameSource(t, s, much, end("")+begin+"\x00"); f != bad(api.Truncated, 769+129) {
		t.Errorf("entries ahead: %+v", f)
	}
}

// P28.1: what is wrong with a head is told in the order of the list, ahead of what a budget doesn't let.
func TestHeadOrder(t *testing.T) {
	faults := []struct {
		change func(b []byte)
		f      api.Fault
	}{
		{func(b []byte) { b[0] = 11 }, bad(api.Malformed, 0)},
		{func(b []byte) { b[1] = 1 }, bad(api.Unsupported, 1)},
		{func(b []byte) { b[2] = 0 }, bad(api.Unsupported, 2)},
		{func(b []byte) { b[4], b[8], b[9] = 1, 0, 0 }, bad(api.Malformed, 8)},
		{func(b []byte) { b[4], b[8], b[9] = 0, 0, 64 }, bad(api.Unsupported, 8)},
		{func(b []byte) { b[6], b[10], b[11] = 1, 0, 0 }, bad(api.Malformed, 10)},
		{func(b []byte) { b[6], b[10], b[11] = 0, 0, 64 }, bad(api.Unsupported, 10)},
		{func(b []byte) { b[65] = 2 }, bad(api.Unsupported, 65)},
		{func(b []byte) { b[66], b[67] = 0, 1 }, bad(api.Malformed, 66)},
		{func(b []byte) { b[len(b)-769] = 0 }, bad(api.Malformed, 128+3)},
	}
	x := files()[2]
	x.text = x.text[:128] + "\x01\x00\x00" + end("")
	for i, one := range faults {
		for _, other := range faults[i:] {
			b := []byte(x.text)
			other.change(b)
			one.change(b)
			for _, g := range []api.Budget{much, {MaxWork: 2}} {
				if _, f := decode(t, source(t, g, string(b))); f != one.f {
					t.Errorf("%+v, not %+v, that is ahead of %+v", f, one.f, other.f)
				}
				same(t, g, string(b), 0)
			}
		}
	}
	// What is wrong with the entries is told behind all else of the head, and ahead of the budget.
	short := x.text[:128+768]
	for _, one := range faults[:9] {
		b := []byte(short)
		one.change(b)
		if _, f := decode(t, source(t, api.Budget{MaxWork: 1}, string(b))); f != one.f {
			t.Errorf("%+v, not %+v", f, one.f)
		}
	}
	if _, f := decode(t, source(t, api.Budget{MaxWork: 1}, short)); f != bad(api.Truncated, len(short)) {
		t.Errorf("%+v", f)
	}
}

// P28.1: a file whose rows are cut off anywhere is Truncated where they end; so is a head at the source's end.
func TestCutOff(t *testing.T) {
	for _, x := range files() {
		for n := range x.rows() {
			if n < 128 {
				expect(t, x.text[:n], api.Image{}, bad(api.Truncated, n))
				continue
			}
			expect(t, x.text[:n]+x.text[x.rows():], api.Image{}, bad(api.Truncated, n))
		}
		if x.numbered() {
			for n := 128; n < 128+769; n++ {
				expect(t, x.text[:n], api.Image{}, bad(api.Truncated, n))
			}
		}
	}
}

// P28.1: a file is read from the source's place on, within what it goes over; places are those of the whole text.
func TestFrom(t *testing.T) {
	for _, x := range files() {
		text := "\x0a\x05\x01" + x.text + "!"
		w, _ := source(t, much, text).Window(3, len(x.text))
		if m, f := sameSource(t, w, much, text); f != (api.Fault{}) || !raster.Same(m, x.m) {
			t.Errorf("%s: %v, %+v", brief(text), m, f)
		}
		w, _ = source(t, much, text).Window(2, len(x.text)+1)
		w.Seek(3)
		if m, f := sameSource(t, w, much, text); f != (api.Fault{}) || !raster.Same(m, x.m) {
			t.Errorf("%s: %v, %+v", brief(text), m, f)
		}
		w, _ = source(t, much, text).Window(3, len(x.text)-1)
		if _, f := sameSource(t, w, much, text); f.Kind == 0 {
			t.Errorf("%s: %+v", brief(text), f)
		}
		for i := 3; i < len(text)-1; i++ {
			b := []byte(text)
			b[i] ^= 0x55
			g := api.Budget{MaxWidth: 99, MaxHeight: 99, MaxBytes: 9999, MaxWork: 9999}
			same(t, g, string(b[:len(b)-1]), 3)
			same(t, g, string(b), 3)
		}
	}
	l := files()
	s := source(t, much, l[1].text+l[7].text+l[4].text)
	for _, i := range []int{1, 7, 4} {
		if got, f := decode(t, s); f != (api.Fault{}) || !raster.Same(got, l[i].m) {
			t.Errorf("one behind the other: %v, %+v", got, f)
		}
	}
}

// P28.1: a packet of each first byte, where any number of bytes lack of a row: of too many, or none, it is Malformed, and no step of work is asked for.
func TestPackets(t *testing.T) {
	for first := range 256 {
		for _, lack := range []int{1, 2, 3, 4, 5, 61, 62, 63, 64, 65} {
			for _, ahead := range []string{"", "\x01", "\xc2\xff\x00", "\xff\x01"} {
				told := map[string]int{"": 0, "\x01": 1, "\xc2\xff\x00": 3, "\xff\x01": 63}[ahead]
				begin := of(Options{8, 3}, 1, 1, 0)
				begin.right = (told+lack+2)/3 - 1
				begin.line = (told + lack + 2) / 3
				skip := 3*begin.line - told - lack
				text := begin.head() + strings.Repeat("\x00", skip) + ahead + string([]byte{byte(first)})
				at, n := len(text)-1, first-0xc0
				want := api.Fault{}
				switch {
				case first < 0xc0:
					text += strings.Repeat("\x00", lack-1)
				case n == 0 || n > lack:
					// Ahead of that the byte behind it is read.
					expect(t, text, api.Image{}, bad(api.Truncated, len(text)))
					text += "\x07"
					want = bad(api.Malformed, at)
				default:
					text += "\x07" + strings.Repeat("\x00", lack-n)
				}
				if _, f := same(t, much, text, 0); f != want {
					t.Errorf("%x, of %d: %+v", first, lack, f)
				}
				same(t, much, text[:len(text)-1], 0)
				same(t, much, text+"\xc0\xc0", 0)
			}
		}
	}
}

// P28.1: a packet doesn't go on over the end of a row.
func TestRowEnds(t *testing.T) {
	for _, o := range pairs {
		for width := 1; width < 20; width++ {
			begin := of(o, width, 2, 0)
			size := begin.line * o.Planes
			for n := 1; n <= min(2*size, 63); n++ {
				rows := string([]byte{byte(0xc0 + n), 1}) + strings.Repeat("\x01", 2*size-n)
				want := api.Fault{}
				if n > size {
					want = bad(api.Malformed, 128)
				}
				text := begin.head() + rows
				if o == (Options{8, 1}) {
					text += end("")
				}
				if _, f := same(t, much, text, 0); f != want {
					t.Errorf("%+v, %d of %d: %+v", o, n, size, f)
				}
			}
			// The second row has a packet of one byte more than it lacks.
			if size < 63 {
				text := begin.head() + strings.Repeat("\x01", size) + string([]byte{byte(0xc1 + size), 1})
				if o == (Options{8, 1}) {
					text += end("")
				}
				if _, f := same(t, much, text, 0); f != bad(api.Malformed, 128+size) {
					t.Errorf("%+v, %d: %+v", o, size, f)
				}
			}
		}
	}
}

// P28.1: a pixel of each number of bits and planes.
func TestPixels(t *testing.T) {
	entries, sixteen := "", ""
	for n := range 256 {
		entries += string([]byte{byte(n), byte(255 - n), byte(7 * n)})
	}
	for n := range 16 {
		sixteen += string([]byte{byte(n + 100), byte(n), byte(200 - n)})
	}
	for n := range 256 {
		b := byte(n)
		expect(t, of(Options{8, 1}, 1, 1, 0).head()+string([]byte{0xc1, b})+"\x0c"+entries, image(1, 1, b, 255-b, 7*b), api.Fault{})
		expect(t, of(Options{8, 3}, 1, 1, 0).head()+string([]byte{0xc1, b, 0xc1, ^b, 0xc1, b ^ 0x55}), image(1, 1, b, ^b, b^0x55), api.Fault{})
		var ink []byte
		for x := range 8 {
			ink = append(ink, 255*(b>>(7-x)&1))
		}
		expect(t, of(Options{1, 1}, 8, 1, 0).head()+string([]byte{0xc1, b}), greys(8, 1, ink...), api.Fault{})
		for other := range 256 {
			p := of(Options{1, 4}, 8, 1, 0)
			p.entries = sixteen
			c := byte(other)
			l := []byte{b, c, b ^ c, b &^ c}
			var pixels []byte
			for x := range 8 {
				i := byte(0)
				for plane, v := range l {
					i += v >> (7 - x) & 1 << plane
				}
				pixels = append(pixels, i+100, i, 200-i)
			}
			expect(t, p.head()+string([]byte{0xc1, l[0], 0xc1, l[1], 0xc1, l[2], 0xc1, l[3]}), image(8, 1, pixels...), api.Fault{})
		}
	}
}

// P28.1: what a budget doesn't let of sides and bytes is Spent behind the head, in the order of the list, ahead of what is wrong with the rest.
func TestSpentBytes(t *testing.T) {
	for _, x := range files() {
		need := api.Budget{MaxWidth: x.m.Width, MaxHeight: x.m.Height, MaxBytes: len(x.m.Pix) + x.kept, MaxWork: x.work}
		heads := 1
		if x.numbered() {
			heads = 2
		}
		for _, change := range []func(g *api.Budget){
			func(g *api.Budget) { g.MaxWidth-- },
			func(g *api.Budget) { g.MaxHeight-- },
			func(g *api.Budget) { g.MaxWidth = math.MinInt },
			func(g *api.Budget) { g.MaxHeight = 0 },
			func(g *api.Budget) { g.MaxBytes-- },
			func(g *api.Budget) { g.MaxBytes = 0 },
			func(g *api.Budget) { g.MaxBytes = -1 },
			func(g *api.Budget) { g.MaxBytes = len(x.m.Pix) - 1 },
			func(g *api.Budget) { g.MaxBytes = len(x.m.Pix) },
			func(g *api.Budget) { g.MaxBytes = len(x.m.Pix) + min(x.kept, 1024) - 1 },
			func(g *api.Budget) { g.MaxBytes--; g.MaxWork = heads },
		} {
			g := need
			change(&g)
			for _, text := range []string{x.text, x.text[:128] + x.text[x.rows():], x.text[:128] + "\xc0\xc0" + x.text[x.rows():]} {
				s := source(t, g, text)
				if _, f := sameSource(t, s, g, text); f != bad(api.Spent, 128) || s.Ledger().Steps() != heads {
					t.Errorf("%s by %+v: %+v, at %d", brief(text), g, f, s.At())
				}
			}
		}
		for n := range need.MaxBytes {
			g := need
			g.MaxBytes = n
			if _, f := same(t, g, x.text, 0); f != bad(api.Spent, 128) {
				t.Errorf("%s by %+v: %+v", brief(x.text), g, f)
			}
		}
		s := source(t, need, x.text)
		if m, f := sameSource(t, s, need, x.text); f != (api.Fault{}) || !raster.Same(m, x.m) || s.Ledger().Steps() != x.work || s.Ledger().Peak() != need.MaxBytes {
			t.Errorf("%s by its need: %v, %+v, %d steps, %d bytes", brief(x.text), m, f, s.Ledger().Steps(), s.Ledger().Peak())
		}
	}
}

// P28.1: by less steps than are enough it is Spent where a reading, or a pixel, would have been, and no bytes are kept; by those and by more it is told.
func TestSteps(t *testing.T) {
	for _, x := range files() {
		for steps := range x.work + 3 {
			g := much
			g.MaxWork = steps
			m, f := same(t, g, x.text, 0)
			if steps < x.work && (f.Kind != api.Spent || f.At < 0 || f.At > len(x.text)) {
				t.Errorf("%s by %d steps: %+v", brief(x.text), steps, f)
			}
			if steps >= x.work && (f != (api.Fault{}) || !raster.Same(m, x.m)) {
				t.Errorf("%s by %d steps: %v, %+v", brief(x.text), steps, m, f)
			}
			for n := 126; n < x.rows(); n++ {
				same(t, g, x.text[:n], 0)
				same(t, g, x.text[:n]+x.text[x.rows():], 0)
			}
		}
	}
}

// P28.1: with a ledger that refused something ahead nothing is read.
func TestBroken(t *testing.T) {
	s := source(t, much, "x"+files()[0].text)
	s.Seek(1)
	s.Ledger().Take(-1)
	if _, f := decode(t, s); f != bad(api.Spent, 1) || s.At() != 1 {
		t.Errorf("%+v, at %d", f, s.At())
	}
	if h, f := Read(s); h != (Head{}) || f != bad(api.Spent, 1) {
		t.Errorf("%+v, %+v", h, f)
	}
}

// P28.1: a raster is open, and the caller's: it can be freed, and a second one has bytes of its own.
func TestOpen(t *testing.T) {
	for _, x := range files() {
		s := source(t, much, x.text)
		one, f := Decode(s)
		s.Seek(0)
		other, g := Decode(s)
		n := len(x.m.Pix)
		if f != (api.Fault{}) || g != f || s.Ledger().Bytes() != 2*n {
			t.Fatal(f, g, s.Ledger().Bytes())
		}
		if one.Width() != x.m.Width || one.Height() != x.m.Height || !one.Set(0, 0, api.Color{}) || !one.Free() || s.Ledger().Bytes() != n {
			t.Error("the first one isn't open")
		}
		if m, ok := other.Image(); !ok || !raster.Same(m, x.m) {
			t.Errorf("%v, %t", m, ok)
		}
	}
}

// anyRows is packets of any kinds, of so many rows of so many bytes.
func anyRows(next func(n int) int, size, height int) string {
	var b []byte
	for range height {
		for lack := size; lack > 0; {
			n := 1 + next(min(lack, 63))
			switch next(3) {
			case 0:
				n = 1
				b = append(b, byte(next(192)))
			default:
				b = append(b, byte(0xc0+n), byte(next(256)))
			}
			lack -= n
		}
	}
	return string(b)
}

// P28.1: any bytes are what the chapter's words make of them, by any budget.
func TestAnyBytes(t *testing.T) {
	next := random(1)
	for range 20000 {
		o := pairs[next(4)]
		p := of(o, 1+next(40), 1+next(9), next(4))
		for range 16 {
			p.entries += string([]byte{byte(next(256)), byte(next(256)), byte(next(256))})
		}
		text := p.head() + anyRows(next, p.line*p.planes, p.bottom+1)
		tail := ""
		if o == (Options{8, 1}) {
			tail = end(p.entries)
		}
		g := api.Budget{MaxWidth: 40, MaxHeight: 9, MaxBytes: 9999, MaxWork: 9999}
		switch next(4) {
		case 0:
			text = text[:next(len(text))]
		case 1:
			b := []byte(text)
			for range 1 + next(3) {
				b[128+next(len(b)-128)] = byte(next(256))
			}
			text = string(b)
		case 2:
			g = api.Budget{MaxWidth: 1 + next(45), MaxHeight: 1 + next(10), MaxBytes: next(3000), MaxWork: next(900)}
		}
		text += tail
		m, f := same(t, g, text, 0)
		if f.Kind != api.NoFault && (f.Kind > api.Spent || f.Format != api.PCX || f.At < 0 || f.At > len(text)) {
			t.Errorf("%s: %+v", brief(text), f)
		}
		small := api.Budget{MaxWidth: next(45), MaxHeight: next(10), MaxBytes: next(3000), MaxWork: next(1200)}
		k, e := same(t, small, text, 0)
		if e.Kind != api.Spent && f.Kind != api.Spent && (e != f || !raster.Same(k, m)) {
			t.Errorf("%s by %+v: %v, %+v, not %v, %+v", brief(text), small, k, e, m, f)
		}
	}
	for range 20000 {
		b := make([]byte, next(200))
		for i := range b {
			b[i] = byte(next(256))
		}
		o := pairs[next(4)]
		same(t, much, of(o, 1+next(4), 1+next(4), next(4)).head()+string(b), 0)
		same(t, much, of(o, 1+next(4), 1+next(4), next(4)).head()+string(b)+end(""), 0)
		same(t, api.Budget{MaxWidth: 9, MaxHeight: 9, MaxBytes: 9999, MaxWork: 9999}, string(b), 0)
	}
}
