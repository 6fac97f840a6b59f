package sun

import (
	"encoding/binary"
	"fmt"
	"math"
	"strconv"
	"strings"
	"testing"

	"tintype/api"
	"tintype/ledger"
	"tintype/raster"
	"tintype/src"
)

// much is a budget that lets everything.
var much = api.Budget{MaxWidth: math.MaxInt, MaxHeight: math.MaxInt, MaxBytes: math.MaxInt, MaxWork: math.MaxInt}

// random tells numbers below n, of a seed of its own.
func random(seed uint64) func(n int) int {
	return func(n int) int {
		seed = seed*6364136223846793005 + 1442695040888963407
		return int(seed>>33) % n
	}
}

func source(t *testing.T, g api.Budget, text string) *src.Src {
	t.Helper()
	s, e := src.New(ledger.New(g), text)
	if e != api.OK {
		t.Fatalf("no source: %d", e)
	}
	return s
}

func bad(kind, at int) api.Fault {
	return api.Fault{Kind: kind, Format: api.SUN, At: at}
}

// image is one of such channels, R, G and B of each pixel.
func image(width, height int, l ...byte) api.Image {
	m := api.Image{Width: width, Height: height}
	for i := 0; i < len(l); i += 3 {
		m.Pix = append(m.Pix, l[i], l[i+1], l[i+2], 255)
	}
	return m
}

// greys is an image of pixels whose channels are one.
func greys(width, height int, l ...byte) api.Image {
	m := api.Image{Width: width, Height: height}
	for _, v := range l {
		m.Pix = append(m.Pix, v, v, v, 255)
	}
	return m
}

// words are numbers of four bytes, the highest first.
func words(l ...int) string {
	var b []byte
	for _, v := range l {
		b = binary.BigEndian.AppendUint32(b, uint32(v))
	}
	return string(b)
}

// head is the bytes of one, whose map has so many bytes; what isn't looked at is there, too.
func head(width, height, bits, kind, bytes int) string {
	return words(0x59a66a95, width, height, bits, 0xeeeeeeee, kind, min(bytes, 1), bytes)
}

// brief is what is told of a text in a test's words.
func brief(text string) string {
	if len(text) < 32 {
		return strconv.Quote(text)
	}
	return fmt.Sprintf("%x .. %x, of %d bytes", text[:32], text[32:min(len(text), 90)], len(text))
}

// decode is the image of a source's file, or what is wrong. Its ledger keeps just the bytes of the image more, or none.
func decode(t *testing.T, s *src.Src) (api.Image, api.Fault) {
	t.Helper()
	had := s.Ledger().Bytes()
	r, f := Decode(s)
	if f.Kind != api.NoFault {
		if r != nil || s.Ledger().Bytes() != had {
			t.Errorf("%+v: beside it %v, and %d bytes", f, r, s.Ledger().Bytes()-had)
		}
		return api.Image{}, f
	}
	if f != (api.Fault{}) {
		t.Errorf("no fault is %+v", f)
	}
	m, ok := r.Image()
	if !ok || !raster.Right(m) || s.Ledger().Bytes() != had+len(m.Pix) {
		t.Errorf("%d by %d, %t, of %d bytes: %d more are kept", m.Width, m.Height, ok, len(m.Pix), s.Ledger().Bytes()-had)
	}
	return m, f
}

// expect holds a whole text against its image, or what is wrong.
func expect(t *testing.T, text string, m api.Image, f api.Fault) {
	t.Helper()
	got, g := decode(t, source(t, much, text))
	if g != f || !raster.Same(got, m) {
		t.Errorf("%s: %v, %+v, not %v, %+v", brief(text), got, g, m, f)
	}
}

// cursor reads a text as layer 5 does, up to an end, by so many steps.
type cursor struct {
	text        string
	at, end     int
	steps, most int
	kept, peak  int
	packed      bool
	// stock is what packets told of bytes that weren't asked for yet, which stand at place.
	stock []int
	place int
}

// work does a step; what is wrong, if it isn't let.
func (c *cursor) work() api.Fault {
	if c.steps == c.most {
		return bad(api.Spent, c.at)
	}
	c.steps++
	return api.Fault{}
}

// take is the next n bytes.
func (c *cursor) take(n int) (string, api.Fault) {
	if f := c.work(); f.Kind != 0 {
		return "", f
	}
	if n > c.end-c.at {
		return "", bad(api.Truncated, c.end)
	}
	c.at += n
	return c.text[c.at-n : c.at], api.Fault{}
}

// byte is the next one of rows.
func (c *cursor) byte() (int, api.Fault) {
	if len(c.stock) == 0 {
		c.place = c.at
		var l []int
		for len(l) == 0 || c.packed && l[0] == 128 && (len(l) == 1 || len(l) == 2 && l[1] > 0) {
			b, f := c.take(1)
			if f.Kind != 0 {
				return 0, f
			}
			l = append(l, int(b[0]))
		}
		c.stock = l[:1]
		if len(l) == 3 {
			c.stock = nil
			for range l[1] + 1 {
				c.stock = append(c.stock, l[2])
			}
		}
	}
	v := c.stock[0]
	c.stock = c.stock[1:]
	return v, api.Fault{}
}

// keep keeps n bytes more, of a budget.
func (c *cursor) keep(g api.Budget, n int) bool {
	if c.kept+n > g.MaxBytes {
		return false
	}
	c.kept += n
	c.peak = c.kept
	return true
}

// modelHead is what a file's head tells, or what is wrong with it.
func modelHead(c *cursor) (h Head, f api.Fault) {
	from := c.at
	b, f := c.take(32)
	if f.Kind != 0 {
		return h, f
	}
	for i, v := range []byte{0x59, 0xa6, 0x6a, 0x95} {
		if b[i] != v {
			return h, bad(api.Malformed, from+i)
		}
	}
	word := func(i int) int { return int(binary.BigEndian.Uint32([]byte(b[i:]))) }
	for _, at := range []int{4, 8} {
		if word(at) == 0 {
			return h, bad(api.Malformed, from+at)
		}
		if word(at) > 16384 {
			return h, bad(api.Unsupported, from+at)
		}
	}
	if n := word(12); n != 1 && n != 8 && n != 24 && n != 32 {
		return h, bad(api.Unsupported, from+12)
	}
	if word(20) > 3 {
		return h, bad(api.Unsupported, from+20)
	}
	if word(24) > 1 {
		return h, bad(api.Unsupported, from+24)
	}
	if n := word(28); word(24) == 0 && n != 0 || word(24) == 1 && (n == 0 || n > 768 || n%3 != 0) {
		return h, bad(api.Malformed, from+28)
	}
	return Head{Width: word(4), Height: word(8), Bits: word(12), Type: word(20), Colors: word(28) / 3}, api.Fault{}
}

// modelPixel is R, G and B of the next pixel, of such bits; last are those of the byte that was read last, of one bit.
func modelPixel(c *cursor, h Head, colors string, last *[]int) ([]byte, api.Fault) {
	if h.Bits > 8 {
		var l []byte
		for range h.Bits / 8 {
			v, f := c.byte()
			if f.Kind != 0 {
				return nil, f
			}
			l = append(l, byte(v))
		}
		l = l[len(l)-3:]
		if h.Type != 3 {
			l[0], l[2] = l[2], l[0]
		}
		return l, api.Fault{}
	}
	if h.Bits == 8 || len(*last) == 0 {
		v, f := c.byte()
		if f.Kind != 0 {
			return nil, f
		}
		*last = []int{v}
		for k := 128; h.Bits == 1 && k > 0; k /= 2 {
			if k == 128 {
				*last = nil
			}
			*last = append(*last, v/k%2)
		}
	}
	n := (*last)[0]
	*last = (*last)[1:]
	if h.Colors > 0 {
		if n >= h.Colors {
			return nil, bad(api.Malformed, c.place)
		}
		return []byte{colors[n], colors[h.Colors+n], colors[2*h.Colors+n]}, api.Fault{}
	}
	if h.Bits == 1 {
		n = 255 - 255*n
	}
	return []byte{byte(n), byte(n), byte(n)}, api.Fault{}
}

// model is what the chapter's words make of a source that goes over a text from a place up to another one, by a budget.
func model(g api.Budget, text string, from, to int) (api.Image, api.Fault, *cursor) {
	c := &cursor{text: text, at: from, end: to, most: max(g.MaxWork, 0)}
	h, f := modelHead(c)
	if f.Kind != 0 {
		return api.Image{}, f, c
	}
	if h.Width > g.MaxWidth || h.Height > g.MaxHeight || !c.keep(g, 4*h.Width*h.Height) || !c.keep(g, 4*h.Colors) {
		return api.Image{}, bad(api.Spent, c.at), c
	}
	colors := ""
	if h.Colors > 0 {
		if colors, f = c.take(3 * h.Colors); f.Kind != 0 {
			return api.Image{}, f, c
		}
	}
	c.packed = h.Type == 2
	m := api.Image{Width: h.Width, Height: h.Height}
	for range h.Height {
		var last []int
		for range h.Width {
			p, f := modelPixel(c, h, colors, &last)
			if f.Kind == 0 {
				f = c.work()
			}
			if f.Kind != 0 {
				return api.Image{}, f, c
			}
			m.Pix = append(append(m.Pix, p...), 255)
		}
		if bytes := (h.Width*h.Bits + 7) / 8; bytes%2 == 1 {
			if _, f := c.byte(); f.Kind != 0 {
				return api.Image{}, f, c
			}
		}
	}
	return m, api.Fault{}, c
}

// same holds a text from a place on against the model, by a budget.
func same(t *testing.T, g api.Budget, text string, from int) (api.Image, api.Fault) {
	t.Helper()
	s := source(t, g, text)
	s.Seek(from)
	return sameSource(t, s, g, text)
}

// sameSource holds the file of a source over a text against the model, by its budget, of which nothing was used.
func sameSource(t *testing.T, s *src.Src, g api.Budget, text string) (api.Image, api.Fault) {
	t.Helper()
	from := s.At()
	m, f := decode(t, s)
	want, h, c := model(g, text, from, s.To())
	if f != h || !raster.Same(m, want) || s.Ledger().Steps() != c.steps || s.Ledger().Peak() != c.peak {
		t.Errorf("%s from %d on, by %+v: %v, %+v, %d steps, %d bytes, not %v, %+v, %d, %d", brief(text), from, g, m, f, s.Ledger().Steps(), s.Ledger().Peak(), want, h, c.steps, c.peak)
	}
	if f.Kind == 0 && s.At() != c.at {
		t.Errorf("%s from %d on: at %d, not %d", brief(text), from, s.At(), c.at)
	}
	return m, f
}

// file is one, its image, how many steps it needs, and how many bytes are kept beside the image.
type file struct {
	text string
	m    api.Image
	work int
	kept int
}

// files are some of all bits and types, with maps and without, by hand; each ends with the last byte that is looked at.
func files() []file {
	const two = "\x01\x02\x03\x04\x05\x06" // 1 3 5 and 2 4 6
	return []file{
		{head(1, 1, 24, 1, 0) + "\x01\x02\x03\x00", image(1, 1, 3, 2, 1), 1 + 4 + 1, 0},
		{head(1, 1, 24, 3, 0) + "\x01\x02\x03\xff", image(1, 1, 1, 2, 3), 1 + 4 + 1, 0},
		{head(2, 1, 24, 0, 0) + "\x01\x02\x03\x80\x80\x80", image(2, 1, 3, 2, 1, 128, 128, 128), 1 + 6 + 2, 0},
		{head(1, 2, 32, 1, 0) + "\x07\x01\x02\x03\x08\x04\x05\x06", image(1, 2, 3, 2, 1, 6, 5, 4), 1 + 8 + 2, 0},
		{head(1, 1, 32, 3, 6) + two + "\x07\x01\x02\x03", image(1, 1, 1, 2, 3), 1 + 1 + 4 + 1, 8},
		{head(3, 2, 8, 1, 0) + "\x00\x80\xff\x55" + "\x01\x02\x03\x80", greys(3, 2, 0, 128, 255, 1, 2, 3), 1 + 8 + 6, 0},
		{head(3, 1, 8, 1, 6) + two + "\x01\x00\x01\xff", image(3, 1, 2, 4, 6, 1, 3, 5, 2, 4, 6), 1 + 1 + 4 + 3, 8},
		{head(2, 1, 8, 3, 3) + "\x07\x08\x09" + "\x00\x00", image(2, 1, 7, 8, 9, 7, 8, 9), 1 + 1 + 2 + 2, 4},
		{head(3, 2, 1, 0, 0) + "\x5f\xff\xa0\x00", greys(3, 2, 255, 0, 255, 0, 255, 0), 1 + 4 + 6, 0},
		{head(9, 1, 1, 1, 0) + "\x0f\x80", greys(9, 1, 255, 255, 255, 255, 0, 0, 0, 0, 0), 1 + 2 + 9, 0},
		{head(3, 1, 1, 3, 6) + two + "\x40\xff", image(3, 1, 1, 3, 5, 2, 4, 6, 1, 3, 5), 1 + 1 + 2 + 3, 8},
		{head(2, 1, 1, 1, 3) + "\x07\x08\x09" + "\x3f\x80", image(2, 1, 7, 8, 9, 7, 8, 9), 1 + 1 + 2 + 2, 4},
		// Packets go on over the ends of rows, with what fills them up; of the last one three bytes lack nothing any more.
		{head(3, 3, 8, 2, 0) + "\x01\x80\x04\x07\x80\x00\x80\x07\x09", greys(3, 3, 1, 7, 7, 7, 7, 128, 9, 9, 9), 1 + 1 + 3 + 2 + 3 + 9, 0},
		{head(3, 1, 8, 2, 6) + two + "\x80\x01\x01\x00\x80\xff\x55", image(3, 1, 2, 4, 6, 2, 4, 6, 1, 3, 5), 1 + 1 + 3 + 1 + 3 + 3, 8},
		{head(2, 1, 24, 2, 0) + "\x80\x02\x80\x01\x80\x00\x03", image(2, 1, 128, 128, 128, 3, 128, 1), 1 + 3 + 1 + 2 + 1 + 2, 0},
		{head(1, 1, 32, 2, 0) + "\x80\x01\x05\x80\x01\x06", image(1, 1, 6, 6, 5), 1 + 3 + 3 + 1, 0},
		{head(17, 1, 1, 2, 0) + "\x80\x02\x80\x00", greys(17, 1, 0, 255, 255, 255, 255, 255, 255, 255, 0, 255, 255, 255, 255, 255, 255, 255, 0), 1 + 3 + 1 + 17, 0},
	}
}

// P29.1: the chapter's example.
func TestExample(t *testing.T) {
	if got := Pack("\x0a\x0a\x0a\x80"); got != "\x80\x02\x0a\x80\x00" {
		t.Errorf("%x", got)
	}
}

// P29.1: files by hand; what isn't looked at changes nothing.
func TestDecode(t *testing.T) {
	for _, x := range files() {
		for at := 16; at < 20; at++ {
			for _, v := range []byte{0, 1, 10, 255} {
				b := []byte(x.text)
				b[at] = v
				expect(t, string(b), x.m, api.Fault{})
			}
		}
		same(t, much, x.text, 0)
		for _, more := range []string{"\x00", "\x80", "\xff\xc0", x.text} {
			expect(t, x.text+more, x.m, api.Fault{})
			same(t, much, x.text+more, 0)
		}
		// The types 0 and 1 are one, and 3 as these but for the order of channels.
		if kind := x.text[23]; kind != 2 {
			for v := range 4 {
				b := []byte(x.text)
				b[23] = byte(v)
				m, f := same(t, much, string(b), 0)
				if f != (api.Fault{}) && v != 2 {
					t.Errorf("%s: %+v", brief(string(b)), f)
				}
				if v != 2 && (x.text[15] <= 8 || v/2 == int(kind)/2) && !raster.Same(m, x.m) {
					t.Errorf("%s: %v", brief(string(b)), m)
				}
			}
		}
	}
}

// P29.1: a text is a file's, if it begins with the sign, whatever stands behind it.
func TestIs(t *testing.T) {
	for _, s := range []string{"\x59\xa6\x6a\x95", "\x59\xa6\x6a\x95\x00", files()[0].text} {
		if !Is(s) {
			t.Errorf("%q is none", s)
		}
	}
	for _, s := range []string{"", "\x59", "\x59\xa6\x6a", "\x95\x6a\xa6\x59", " \x59\xa6\x6a\x95", "59a66a95", "BM"} {
		if Is(s) {
			t.Errorf("%q is one", s)
		}
	}
	for i := range 4 {
		for v := range 256 {
			b := []byte("\x59\xa6\x6a\x95")
			b[i] = byte(v)
			if Is(string(b)) != (string(b) == "\x59\xa6\x6a\x95") {
				t.Errorf("%q", b)
			}
		}
	}
}

// headOfText holds a head against the model; the place is behind it, if nothing is wrong.
func headOfText(t *testing.T, g api.Budget, text string, from int) (Head, api.Fault) {
	t.Helper()
	s := source(t, g, text)
	s.Seek(from)
	h, f := Read(s)
	c := &cursor{text: text, at: from, end: len(text), most: max(g.MaxWork, 0)}
	want, wrong := modelHead(c)
	if h != want || f != wrong || s.Ledger().Steps() != c.steps || f.Kind == 0 && s.At() != from+32 {
		t.Errorf("%s from %d on: %+v, %+v, %d steps, at %d, not %+v, %+v, %d", brief(text), from, h, f, s.Ledger().Steps(), s.At(), want, wrong, c.steps)
	}
	if s.Ledger().Peak() != 0 {
		t.Errorf("%s: %d bytes were kept", brief(text), s.Ledger().Peak())
	}
	return h, f
}

// P29.1: each byte of a head, and any several, changed; cut off anywhere, and from a place on.
func TestHead(t *testing.T) {
	for _, x := range files() {
		for i := range 32 {
			for v := range 256 {
				b := []byte(x.text)
				b[i] = byte(v)
				headOfText(t, much, string(b), 0)
				headOfText(t, much, "any"+string(b)+"!", 3)
			}
		}
		for n := range 32 {
			if _, f := headOfText(t, much, x.text[:n], 0); f != bad(api.Truncated, n) {
				t.Errorf("%d bytes: %+v", n, f)
			}
			headOfText(t, much, "x"+x.text[:n], 1)
			headOfText(t, much, strings.Repeat("x", n), 0)
		}
		if _, f := headOfText(t, api.Budget{}, x.text, 0); f != bad(api.Spent, 0) {
			t.Errorf("no step: %+v", f)
		}
	}
	next := random(29)
	l := files()
	for range 30000 {
		b := []byte(l[next(len(l))].text)
		for range 2 + next(4) {
			b[next(32)] = "\x00\x01\x02\x03\x04\x06\x08\x18\x20\x40\x80\xff"[next(12)]
		}
		headOfText(t, much, string(b), 0)
		same(t, api.Budget{MaxWork: 9}, string(b), 0)
	}
}

// P29.1: sides, bits, types and maps about the ends of what they may be; what the ledger lets isn't asked.
func TestNumbers(t *testing.T) {
	g := api.Budget{MaxWork: 1}
	numbers := []int{0, 1, 2, 255, 256, 257, 16383, 16384, 16385, 65535, 65536, 1 << 24, 1 << 31, 1<<32 - 1}
	for _, w := range numbers {
		for _, h := range numbers {
			got, f := headOfText(t, g, head(w, h, 8, 1, 0), 0)
			want := api.Fault{}
			switch {
			case w == 0:
				want = bad(api.Malformed, 4)
			case w > 16384:
				want = bad(api.Unsupported, 4)
			case h == 0:
				want = bad(api.Malformed, 8)
			case h > 16384:
				want = bad(api.Unsupported, 8)
			}
			if f != want || f.Kind == 0 && got != (Head{w, h, 8, 1, 0}) || f.Kind != 0 && got != (Head{}) {
				t.Errorf("%d by %d: %+v, %+v", w, h, got, f)
			}
		}
	}
	for bits := range 300 {
		want := bad(api.Unsupported, 12)
		if bits == 1 || bits == 8 || bits == 24 || bits == 32 {
			want = api.Fault{}
		}
		for kind := range 9 {
			if kind == 4 && want.Kind == 0 {
				want = bad(api.Unsupported, 20)
			}
			if h, f := headOfText(t, g, head(1, 1, bits, kind, 3), 0); f != want || f.Kind == 0 && h != (Head{1, 1, bits, kind, 1}) {
				t.Errorf("%d bits, type %d: %+v, %+v", bits, kind, h, f)
			}
		}
	}
	for _, v := range []int{1 << 8, 1<<8 + 1, 1<<16 + 8, 1<<24 + 24, 1<<31 + 32, 1<<32 - 1} {
		if _, f := headOfText(t, g, head(1, 1, v, 1, 0), 0); f != bad(api.Unsupported, 12) {
			t.Errorf("%d bits: %+v", v, f)
		}
		if _, f := headOfText(t, g, head(1, 1, 8, v, 0), 0); f != bad(api.Unsupported, 20) {
			t.Errorf("type %d: %+v", v, f)
		}
	}
}

// P29.1: maps of all kinds and of all numbers of bytes.
func TestMaps(t *testing.T) {
	g := api.Budget{MaxWork: 1}
	begin := head(1, 1, 8, 1, 0)[:24]
	for _, kind := range []int{0, 1, 2, 3, 256, 257, 1 << 31, 1<<32 - 1} {
		for n := range 1000 {
			for _, bytes := range []int{n, n << 16, 1<<32 - 1 - n} {
				want := api.Fault{}
				switch {
				case kind > 1:
					want = bad(api.Unsupported, 24)
				case kind == 0 && bytes != 0, kind == 1 && (bytes == 0 || bytes > 768 || bytes%3 != 0):
					want = bad(api.Malformed, 28)
				}
				if h, f := headOfText(t, g, begin+words(kind, bytes), 0); f != want || f.Kind == 0 && h != (Head{1, 1, 8, 1, bytes / 3}) {
					t.Errorf("kind %d, %d bytes: %+v, %+v", kind, bytes, h, f)
				}
			}
		}
	}
	// Each number of entries, the last one of which is a pixel's, and the one behind it, which isn't there.
	for n := 1; n <= 256; n++ {
		var l []byte
		for i := range 3 * n {
			l = append(l, byte(i*7))
		}
		for _, kind := range []int{0, 1, 2, 3} {
			if kind == 2 && n == 129 {
				continue // in packets the last number is more than one byte
			}
			text := head(1, 1, 8, kind, 3*n) + string(l) + string([]byte{byte(n - 1), 0})
			expect(t, text, image(1, 1, l[n-1], l[2*n-1], l[3*n-1]), api.Fault{})
			s := source(t, much, text)
			if _, f := sameSource(t, s, much, text); f.Kind != 0 || s.Ledger().Peak() != 4+4*n {
				t.Errorf("%d entries: %+v, %d bytes", n, f, s.Ledger().Peak())
			}
			if n < 256 && !(kind == 2 && n == 128) {
				text = text[:len(text)-2] + string([]byte{byte(n), 0})
				expect(t, text, api.Image{}, bad(api.Malformed, 32+3*n))
			}
		}
	}
}

// P29.1: what is wrong with a head is told in the order of the list, ahead of what a budget doesn't let.
func TestHeadOrder(t *testing.T) {
	faults := []struct {
		change func(b []byte)
		f      api.Fault
	}{
		{func(b []byte) { b[0] = 0x95 }, bad(api.Malformed, 0)},
		{func(b []byte) { b[1] = 0 }, bad(api.Malformed, 1)},
		{func(b []byte) { b[2] = 0x6b }, bad(api.Malformed, 2)},
		{func(b []byte) { b[3] = 0x59 }, bad(api.Malformed, 3)},
		{func(b []byte) { b[4], b[7] = 0, 0 }, bad(api.Malformed, 4)},
		{func(b []byte) { b[4], b[7] = 1, 0 }, bad(api.Unsupported, 4)},
		{func(b []byte) { b[10], b[11] = 0, 0 }, bad(api.Malformed, 8)},
		{func(b []byte) { b[10], b[11] = 0x41, 0 }, bad(api.Unsupported, 8)},
		{func(b []byte) { b[15] = 4 }, bad(api.Unsupported, 12)},
		{func(b []byte) { b[23] = 4 }, bad(api.Unsupported, 20)},
		{func(b []byte) { b[27] = 2 }, bad(api.Unsupported, 24)},
		{func(b []byte) { b[31] = 7 }, bad(api.Malformed, 28)},
	}
	for i, one := range faults {
		for _, other := range faults[i:] {
			for _, x := range files() {
				b := []byte(x.text)
				other.change(b)
				one.change(b)
				for _, g := range []api.Budget{much, {MaxWork: 1}} {
					if _, f := decode(t, source(t, g, string(b))); f != one.f {
						t.Errorf("%+v, not %+v, that is ahead of %+v", f, one.f, other.f)
					}
					same(t, g, string(b), 0)
				}
			}
		}
	}
}

// P29.1: a file that is cut off anywhere is Truncated at its end.
func TestCutOff(t *testing.T) {
	for _, x := range files() {
		for n := range len(x.text) {
			expect(t, x.text[:n], api.Image{}, bad(api.Truncated, n))
		}
	}
}

// P29.1: a file is read from the source's place on, within what it goes over; places are those of the whole text.
func TestFrom(t *testing.T) {
	for _, x := range files() {
		text := "\x59\xa6\x6a" + x.text + "!"
		w, _ := source(t, much, text).Window(3, len(x.text))
		if m, f := sameSource(t, w, much, text); f != (api.Fault{}) || !raster.Same(m, x.m) {
			t.Errorf("%s: %v, %+v", brief(text), m, f)
		}
		w, _ = source(t, much, text).Window(3, len(x.text)-1)
		if _, f := sameSource(t, w, much, text); f != bad(api.Truncated, len(text)-2) {
			t.Errorf("%s: %+v", brief(text), f)
		}
		for i := 3; i < len(text)-1; i++ {
			b := []byte(text)
			b[i] ^= 0x55
			same(t, api.Budget{MaxWidth: 99, MaxHeight: 99, MaxBytes: 9999, MaxWork: 9999}, string(b), 3)
		}
	}
	// Of the last packet of a file nothing goes on into the file behind it.
	l := files()
	s := source(t, much, l[12].text+l[16].text+l[6].text)
	for _, i := range []int{12, 16, 6} {
		if got, f := decode(t, s); f != (api.Fault{}) || !raster.Same(got, l[i].m) {
			t.Errorf("one behind the other: %v, %+v", got, f)
		}
	}
}

// P29.1: a number that no entry has is Malformed at its byte, of packets at the first byte of that in which it stands; ahead of its pixel's step.
func TestPlaces(t *testing.T) {
	const one = "\x07\x08\x09"
	for _, x := range []struct {
		width, height, bits, kind int
		rows                      string
		at                        int
	}{
		{1, 1, 8, 1, "\x01\x00", 0},
		{3, 1, 8, 1, "\x00\x00\x01\x00", 2},
		{3, 2, 8, 3, "\x00\x00\x00\xff\x00\x01\x00\x00", 5},
		{1, 1, 1, 1, "\x80\x00", 0},
		{9, 1, 1, 0, "\x00\x80", 1},
		{8, 1, 1, 0, "\x01\x00", 0},
		{7, 2, 1, 3, "\x01\xff\x02\x00", 2},
		{3, 1, 8, 2, "\x00\x80\x02\x01", 1},
		{3, 1, 8, 2, "\x80\x01\x00\x80\x01\x01", 3},
		{3, 1, 8, 2, "\x00\x00\x80\x00\x00", 2},
		{3, 2, 8, 2, "\x80\x02\x00\x80\x01\x02", 3},
		{5, 1, 1, 2, "\x80\x01\x10", 0},
		{1, 3, 1, 2, "\x00\x00\x80\x03\x80", 2},
		{1, 1, 1, 2, "\x80\x00\x00", 0},
	} {
		text := head(x.width, x.height, x.bits, x.kind, 3) + one + x.rows
		expect(t, text, api.Image{}, bad(api.Malformed, 35+x.at))
		for steps := range 30 {
			g := much
			g.MaxWork = steps
			same(t, g, text, 0)
			same(t, g, "ahead"+text, 5)
		}
	}
}

// P29.1: packets of each three bytes, of all bits.
func TestPackets(t *testing.T) {
	for first := range 256 {
		for second := range 256 {
			if first != 128 && second%51 > 0 {
				continue
			}
			for _, third := range []byte{0, 128, 255} {
				packet := string([]byte{byte(first), byte(second), third})
				for _, ahead := range []string{"", "\x00", "\x80\x00", "\x80\x03\x05"} {
					for _, bits := range []int{1, 8, 24, 32} {
						for _, sides := range [][2]int{{1, 1}, {5, 2}, {130, 2}} {
							text := head(sides[0], sides[1], bits, 2, 0) + ahead + packet
							if third == 128 {
								text += strings.Repeat("\x80\xff\x07", 9)
							}
							same(t, much, text, 0)
						}
					}
				}
			}
		}
	}
}

// P29.1: a packet of any length, where any number of bytes lack; the filling of rows is of them, too.
func TestRuns(t *testing.T) {
	for n := range 256 {
		for _, width := range []int{1, 2, 3, n, n + 1, n + 2, 255, 256, 257} {
			if width < 1 || n == 0 {
				continue
			}
			for height := 1; height < 4; height++ {
				text := head(width, height, 8, 2, 0) + string([]byte{128, byte(n), 9})
				want := api.Fault{}
				if (width+width%2)*height > n+1 {
					want = bad(api.Truncated, 35)
				}
				if m, f := same(t, much, text, 0); f != want || f.Kind == 0 && strings.Count(string(m.Pix), "\x09\x09\x09\xff") != width*height {
					t.Errorf("%d of %d by %d: %v, %+v", n, width, height, m, f)
				}
				same(t, much, text+"\x01\x02\x03", 0)
			}
		}
	}
}

// P29.1: a pixel of each number of bits, with maps and without.
func TestPixels(t *testing.T) {
	var l []byte
	for i := range 768 {
		l = append(l, byte(i*5+i/256))
	}
	for n := range 256 {
		b := byte(n)
		end := string([]byte{b, 0xee})
		expect(t, head(1, 1, 8, 1, 0)+end, greys(1, 1, b), api.Fault{})
		expect(t, head(1, 1, 8, 1, 768)+string(l)+end, image(1, 1, l[n], l[256+n], l[512+n]), api.Fault{})
		var ink, inked []byte
		for x := range 8 {
			bit := b >> (7 - x) & 1
			ink = append(ink, 255*(1-bit))
			inked = append(inked, 1+bit, 3+bit, 5+bit)
		}
		expect(t, head(8, 1, 1, 1, 0)+end, greys(8, 1, ink...), api.Fault{})
		expect(t, head(8, 1, 1, 1, 6)+"\x01\x02\x03\x04\x05\x06"+end, image(8, 1, inked...), api.Fault{})
		for _, ahead := range []string{"", "\x80", "\x07"} {
			bits := 24 + 8*min(len(ahead), 1)
			for _, bytes := range []int{0, 6} {
				begin := func(kind int) string { return head(1, 1, bits, kind, bytes) + "colors"[:bytes] + ahead }
				pixel := string([]byte{b, b ^ 1, b + 7, 0xee})
				expect(t, begin(0)+pixel, image(1, 1, b+7, b^1, b), api.Fault{})
				expect(t, begin(1)+pixel, image(1, 1, b+7, b^1, b), api.Fault{})
				expect(t, begin(3)+pixel, image(1, 1, b, b^1, b+7), api.Fault{})
			}
		}
	}
}

// P29.1: what a budget doesn't let of sides and bytes is Spent behind the head, ahead of what is wrong with the rest.
func TestSpentBytes(t *testing.T) {
	for _, x := range files() {
		need := api.Budget{MaxWidth: x.m.Width, MaxHeight: x.m.Height, MaxBytes: len(x.m.Pix) + x.kept, MaxWork: x.work}
		for _, change := range []func(g *api.Budget){
			func(g *api.Budget) { g.MaxWidth-- },
			func(g *api.Budget) { g.MaxHeight-- },
			func(g *api.Budget) { g.MaxWidth = math.MinInt },
			func(g *api.Budget) { g.MaxHeight = 0 },
			func(g *api.Budget) { g.MaxBytes-- },
			func(g *api.Budget) { g.MaxBytes = 0 },
			func(g *api.Budget) { g.MaxBytes = -1 },
			func(g *api.Budget) { g.MaxBytes = len(x.m.Pix) - 1 },
			func(g *api.Budget) { g.MaxBytes--; g.MaxWork = 1 },
		} {
			g := need
			change(&g)
			for _, text := range []string{x.text, x.text[:32], x.text[:32] + "\x80"} {
				s := source(t, g, text)
				if _, f := sameSource(t, s, g, text); f != bad(api.Spent, 32) || s.Ledger().Steps() != 1 {
					t.Errorf("%s by %+v: %+v, at %d", brief(text), g, f, s.At())
				}
			}
		}
		for n := range need.MaxBytes {
			g := need
			g.MaxBytes = n
			if _, f := same(t, g, x.text, 0); f != bad(api.Spent, 32) {
				t.Errorf("%s by %+v: %+v", brief(x.text), g, f)
			}
		}
		s := source(t, need, x.text)
		if m, f := sameSource(t, s, need, x.text); f != (api.Fault{}) || !raster.Same(m, x.m) || s.Ledger().Steps() != x.work || s.Ledger().Peak() != need.MaxBytes {
			t.Errorf("%s by its need: %v, %+v, %d steps, %d bytes", brief(x.text), m, f, s.Ledger().Steps(), s.Ledger().Peak())
		}
	}
}

// P29.1: by less steps than are enough it is Spent at the source's place, and no bytes are kept; by those and by more it is told.
func TestSteps(t *testing.T) {
	for _, x := range files() {
		for steps := range x.work + 3 {
			g := much
			g.MaxWork = steps
			s := source(t, g, x.text)
			m, f := sameSource(t, s, g, x.text)
			if steps < x.work && (f != bad(api.Spent, s.At()) || s.Ledger().Steps() != steps) {
				t.Errorf("%s by %d steps: %+v, at %d, %d were done", brief(x.text), steps, f, s.At(), s.Ledger().Steps())
			}
			if steps >= x.work && (f != (api.Fault{}) || !raster.Same(m, x.m)) {
				t.Errorf("%s by %d steps: %v, %+v", brief(x.text), steps, m, f)
			}
			for n := range len(x.text) {
				same(t, g, x.text[:n], 0)
			}
		}
	}
}

// P29.1: with a ledger that refused something ahead nothing is read.
func TestBroken(t *testing.T) {
	s := source(t, much, "x"+files()[0].text)
	s.Seek(1)
	s.Ledger().Take(-1)
	if _, f := decode(t, s); f != bad(api.Spent, 1) || s.At() != 1 {
		t.Errorf("%+v, at %d", f, s.At())
	}
	if h, f := Read(s); h != (Head{}) || f != bad(api.Spent, 1) {
		t.Errorf("%+v, %+v", h, f)
	}
}

// P29.1: a raster is open, and the caller's: it can be freed, and a second one has bytes of its own.
func TestOpen(t *testing.T) {
	for _, x := range files() {
		s := source(t, much, x.text+x.text)
		one, f := Decode(s)
		other, g := Decode(s)
		n := len(x.m.Pix)
		if f != (api.Fault{}) || g != f || s.Ledger().Bytes() != 2*n || s.Left() != 0 {
			t.Fatal(f, g, s.Ledger().Bytes())
		}
		if one.Width() != x.m.Width || one.Height() != x.m.Height || !one.Set(0, 0, api.Color{}) || !one.Free() || s.Ledger().Bytes() != n {
			t.Error("the first one isn't open")
		}
		if m, ok := other.Image(); !ok || !raster.Same(m, x.m) {
			t.Errorf("%v, %t", m, ok)
		}
	}
}

// P29.1: any bytes are what the chapter's words make of them, by any budget.
func TestAnyBytes(t *testing.T) {
	next := random(1)
	for range 40000 {
		bits := []int{1, 8, 24, 32}[next(4)]
		bytes := 3 * next(2) * []int{1, 2, 3, 255, 256}[next(5)]
		width, height := 1+next(20), 1+next(6)
		text := head(width, height, bits, next(4), bytes)
		for len(text) < 32+bytes+next(2*width*height*bits/8+9) {
			v := []int{next(256), next(2), 128, 128}[next(4)]
			text += string([]byte{byte(v)})
		}
		g := api.Budget{MaxWidth: 20, MaxHeight: 6, MaxBytes: 9999, MaxWork: 9999}
		if next(3) == 0 {
			g = api.Budget{MaxWidth: 1 + next(22), MaxHeight: 1 + next(7), MaxBytes: next(1800), MaxWork: next(500)}
		}
		m, f := same(t, g, text, 0)
		if f.Kind != api.NoFault && (f.Kind > api.Spent || f.Format != api.SUN || f.At < 0 || f.At > len(text)) {
			t.Errorf("%s: %+v", brief(text), f)
		}
		small := api.Budget{MaxWidth: next(22), MaxHeight: next(7), MaxBytes: next(1800), MaxWork: next(500)}
		k, e := same(t, small, text, 0)
		if e.Kind != api.Spent && f.Kind != api.Spent && (e != f || !raster.Same(k, m)) {
			t.Errorf("%s by %+v: %v, %+v, not %v, %+v", brief(text), small, k, e, m, f)
		}
	}
	for range 20000 {
		b := make([]byte, next(60))
		for i := range b {
			b[i] = byte(next(256))
		}
		same(t, much, head(1+next(4), 1+next(4), []int{1, 8, 24, 32}[next(4)], next(4), 3*next(4))+string(b), 0)
		same(t, api.Budget{MaxWidth: 9, MaxHeight: 9, MaxBytes: 9999, MaxWork: 9999}, string(b), 0)
	}
}
