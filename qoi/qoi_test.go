package qoi

import (
	"encoding/binary"
	"math"
	"strings"
	"testing"

	"tintype/api"
	"tintype/ledger"
	"tintype/raster"
	"tintype/src"
)

// much is a budget that lets everything.
var much = api.Budget{MaxWidth: math.MaxInt, MaxHeight: math.MaxInt, MaxBytes: math.MaxInt, MaxWork: math.MaxInt}

// tail is what stands behind the pixels.
const tail = "\x00\x00\x00\x00\x00\x00\x00\x01"

// random tells numbers below n, of a seed of its own.
func random(seed uint64) func(n int) int {
	return func(n int) int {
		seed = seed*6364136223846793005 + 1442695040888963407
		return int(seed>>33) % n
	}
}

func source(t *testing.T, g api.Budget, text string) *src.Src {
	t.Helper()
	s, e := src.New(ledger.New(g), text)
	if e != api.OK {
		t.Fatalf("no source: %d", e)
	}
	return s
}

func bad(kind, at int) api.Fault {
	return api.Fault{Kind: kind, Format: api.QOI, At: at}
}

func color(r, g, b, a uint8) api.Color { return api.Color{R: r, G: g, B: b, A: a} }

var black = color(0, 0, 0, 255)

// image is one of such colours.
func image(width, height int, l ...api.Color) api.Image {
	m := api.Image{Width: width, Height: height}
	for _, c := range l {
		m.Pix = append(m.Pix, c.R, c.G, c.B, c.A)
	}
	return m
}

// repeat is a colour, n times.
func repeat(c api.Color, n int) (l []api.Color) {
	for range n {
		l = append(l, c)
	}
	return l
}

// head is the bytes of one with such sides, four channels and 0.
func head(width, height int) string {
	b := binary.BigEndian.AppendUint32([]byte("qoif"), uint32(width))
	return string(binary.BigEndian.AppendUint32(b, uint32(height))) + "\x04\x00"
}

// decode is the image of a source's file, or what is wrong. Its ledger keeps just the bytes of the image more, or none.
func decode(t *testing.T, s *src.Src) (api.Image, api.Fault) {
	t.Helper()
	had := s.Ledger().Bytes()
	r, f := Decode(s)
	if f.Kind != api.NoFault {
		if r != nil || s.Ledger().Bytes() != had {
			t.Errorf("%+v: beside it %v, and %d bytes", f, r, s.Ledger().Bytes()-had)
		}
		return api.Image{}, f
	}
	if f != (api.Fault{}) {
		t.Errorf("no fault is %+v", f)
	}
	m, ok := r.Image()
	if !ok || !raster.Right(m) || s.Ledger().Bytes() != had+len(m.Pix) || s.Ledger().Peak() != had+len(m.Pix) {
		t.Errorf("%d by %d, %t, of %d bytes: %d more are kept", m.Width, m.Height, ok, len(m.Pix), s.Ledger().Bytes()-had)
	}
	return m, f
}

// expect holds a whole text against its image, or what is wrong.
func expect(t *testing.T, text string, m api.Image, f api.Fault) {
	t.Helper()
	got, g := decode(t, source(t, much, text))
	if g != f || !raster.Same(got, m) {
		t.Errorf("%.60q: %v, %+v, not %v, %+v", text, got, g, m, f)
	}
}

// cursor reads a text as layer 5 does, by so many steps.
type cursor struct {
	text        string
	at          int
	steps, most int
}

// work does a step; what is wrong, if it isn't let.
func (c *cursor) work() api.Fault {
	if c.steps == c.most {
		return bad(api.Spent, c.at)
	}
	c.steps++
	return api.Fault{}
}

// take is the next n bytes, as numbers.
func (c *cursor) take(n int) ([]int, api.Fault) {
	if f := c.work(); f.Kind != 0 {
		return nil, f
	}
	if n > len(c.text)-c.at {
		return nil, bad(api.Truncated, len(c.text))
	}
	var l []int
	for range n {
		l = append(l, int(c.text[c.at]))
		c.at++
	}
	return l, api.Fault{}
}

// pixel is four channels as numbers.
type pixel [4]int

// modelPlace is a pixel's.
func modelPlace(p pixel) int { return (p[0]*3 + p[1]*5 + p[2]*7 + p[3]*11) % 64 }

// modelHead is the sides of a file, or what is wrong with its head.
func modelHead(c *cursor) (w, h int, f api.Fault) {
	from := c.at
	b, f := c.take(14)
	if f.Kind != 0 {
		return 0, 0, f
	}
	for i, v := range []int{'q', 'o', 'i', 'f'} {
		if b[i] != v {
			return 0, 0, bad(api.Malformed, from+i)
		}
	}
	side := func(at int) (int, api.Fault) {
		v := b[at]*1<<24 + b[at+1]*1<<16 + b[at+2]*1<<8 + b[at+3]
		if v == 0 {
			return 0, bad(api.Malformed, from+at)
		}
		if v > 16384 {
			return 0, bad(api.Unsupported, from+at)
		}
		return v, api.Fault{}
	}
	if w, f = side(4); f.Kind != 0 {
		return 0, 0, f
	}
	if h, f = side(8); f.Kind != 0 {
		return 0, 0, f
	}
	if b[12] < 3 || b[12] > 4 {
		return 0, 0, bad(api.Malformed, from+12)
	}
	if b[13] != 0 && b[13] != 1 {
		return 0, 0, bad(api.Malformed, from+13)
	}
	return w, h, api.Fault{}
}

// modelStep is the pixels of the next step, and how many bytes it has.
func modelStep(c *cursor, last pixel, seen map[int]pixel) ([]pixel, api.Fault) {
	l, f := c.take(1)
	if f.Kind != 0 {
		return nil, f
	}
	b := l[0]
	n := b % 64
	p := last
	switch {
	case b == 0xfe || b == 0xff:
		more, f := c.take(b - 0xfe + 3)
		if f.Kind != 0 {
			return nil, f
		}
		copy(p[:], more)
	case b < 64:
		p = seen[n]
	case b < 128:
		p[0] += n/16 - 2
		p[1] += n/4%4 - 2
		p[2] += n%4 - 2
	case b < 192:
		more, f := c.take(1)
		if f.Kind != 0 {
			return nil, f
		}
		d := n - 32
		p[0] += d + more[0]/16 - 8
		p[1] += d
		p[2] += d + more[0]%16 - 8
	default:
		var l []pixel
		for range n + 1 {
			l = append(l, last)
		}
		return l, api.Fault{}
	}
	for i := range p {
		p[i] = (p[i] + 1024) % 256
	}
	return []pixel{p}, api.Fault{}
}

// model is what the chapter's words make of a text from a place on, by a budget, and how many steps were done.
func model(g api.Budget, text string, from int) (api.Image, api.Fault, int) {
	c := &cursor{text: text, at: from, most: max(g.MaxWork, 0)}
	w, h, f := modelHead(c)
	if f.Kind != 0 {
		return api.Image{}, f, c.steps
	}
	if w > g.MaxWidth || h > g.MaxHeight || 4*w*h > g.MaxBytes {
		return api.Image{}, bad(api.Spent, c.at), c.steps
	}
	m := api.Image{Width: w, Height: h}
	last, seen := pixel{0, 0, 0, 255}, map[int]pixel{}
	for len(m.Pix) < 4*w*h {
		at := c.at
		l, f := modelStep(c, last, seen)
		if f.Kind != 0 {
			return api.Image{}, f, c.steps
		}
		if len(m.Pix)+4*len(l) > 4*w*h {
			return api.Image{}, bad(api.Malformed, at), c.steps
		}
		for _, p := range l {
			if f := c.work(); f.Kind != 0 {
				return api.Image{}, f, c.steps
			}
			m.Pix = append(m.Pix, byte(p[0]), byte(p[1]), byte(p[2]), byte(p[3]))
			last, seen[modelPlace(p)] = p, p
		}
	}
	for _, v := range []int{0, 0, 0, 0, 0, 0, 0, 1} {
		at := c.at
		b, f := c.take(1)
		if f.Kind != 0 {
			return api.Image{}, f, c.steps
		}
		if b[0] != v {
			return api.Image{}, bad(api.Malformed, at), c.steps
		}
	}
	return m, api.Fault{}, c.steps
}

// same holds a text from a place on against the model, by a budget.
func same(t *testing.T, g api.Budget, text string, from int) (api.Image, api.Fault) {
	t.Helper()
	s := source(t, g, text)
	s.Seek(from)
	m, f := decode(t, s)
	want, h, steps := model(g, text, from)
	if f != h || !raster.Same(m, want) || s.Ledger().Steps() != steps {
		t.Errorf("%.80q from %d on, by %+v: %v, %+v, %d steps, not %v, %+v, %d", text, from, g, m, f, s.Ledger().Steps(), want, h, steps)
	}
	return m, f
}

// file is one, its image, and how many steps it needs.
type file struct {
	text  string
	m     api.Image
	steps int
}

// files have steps of all kinds, by hand; each ends with the last byte that is looked at.
func files() []file {
	red := color(255, 0, 0, 255)
	return []file{
		{head(1, 1) + "\xc0" + tail,
			image(1, 1, black), 1 + 2 + 8},
		{head(3, 2) + "\xc5" + tail,
			image(3, 2, repeat(black, 6)...), 1 + 7 + 8},
		{head(2, 1) + "\xfe\x01\x02\x03\xff\x04\x05\x06\x07" + tail,
			image(2, 1, color(1, 2, 3, 255), color(4, 5, 6, 7)), 1 + 3 + 3 + 8},
		{head(1, 3) + "\xff\x04\x05\x06\x07\xfe\x01\x02\x03\xc0" + tail,
			image(1, 3, color(4, 5, 6, 7), color(1, 2, 3, 7), color(1, 2, 3, 7)), 1 + 3 + 3 + 2 + 8},
		// Differences that go round below 0 and above 255: R -2, G -1, B 1, then R and G 1, B -2, then none at all.
		{head(2, 2) + "\x47\x7c\x6a\xc0" + tail,
			image(2, 2, color(254, 255, 1, 255), color(255, 0, 255, 255), color(255, 0, 255, 255), color(255, 0, 255, 255)), 1 + 8 + 8},
		// G -32, R and B 8 less, and 7 more; then G 31, R 7 more, B 8 less; then G 0, and R and B as G.
		{head(3, 1) + "\x80\x0f\xbf\xf0\xa0\x88" + tail,
			image(3, 1, color(216, 224, 231, 255), color(254, 255, 254, 255), color(254, 255, 254, 255)), 1 + 9 + 8},
		// Red stands at (765 + 2805) % 64 = 50, the black ahead of it at 53, since a step told it; at 1 none stands, so all is 0, which stands at 0 then.
		{head(4, 2) + "\xc0\xfe\xff\x00\x00\x35\x32\x01\x35\x00\x32" + tail,
			image(4, 2, black, red, black, red, color(0, 0, 0, 0), black, color(0, 0, 0, 0), red), 1 + 2 + 3 + 12 + 8},
		// Behind a seen one that isn't there A is 0, of differences and of three bytes, too.
		{head(3, 1) + "\x0b\x7f\xfe\x09\x08\x07" + tail,
			image(3, 1, color(0, 0, 0, 0), color(1, 1, 1, 0), color(9, 8, 7, 0)), 1 + 2 + 2 + 3 + 8},
		// The longest run, over the ends of rows.
		{head(7, 9) + "\xfe\x00\x00\x01\xfd" + tail,
			image(7, 9, repeat(color(0, 0, 1, 255), 63)...), 1 + 3 + 63 + 8},
	}
}

// P26.1: the chapter's example.
func TestExample(t *testing.T) {
	const text = "qoif\x00\x00\x00\x01\x00\x00\x00\x01\x04\x00\xc0\x00\x00\x00\x00\x00\x00\x00\x01"
	expect(t, text, image(1, 1, black), api.Fault{})
	if got, e := Write(image(1, 1, black)); got != text || e != api.OK {
		t.Errorf("%q, %d", got, e)
	}
}

// P26.1: a pixel's place, of all numbers of each two channels.
func TestPlace(t *testing.T) {
	for _, x := range []struct {
		c  api.Color
		at int
	}{{api.Color{}, 0}, {black, 53}, {color(255, 255, 255, 255), 38}, {color(1, 0, 0, 0), 3}, {color(0, 1, 0, 0), 5}, {color(0, 0, 1, 0), 7}, {color(0, 0, 0, 1), 11}, {color(21, 0, 0, 0), 63}, {color(20, 0, 0, 0), 60}, {color(19, 0, 1, 0), 0}} {
		if got := Place(x.c); got != x.at {
			t.Errorf("%v: %d, not %d", x.c, got, x.at)
		}
	}
	for a := range 4 {
		for b := range a {
			for v := range 256 {
				for w := range 256 {
					p := pixel{200, 100, 50, 25}
					p[a], p[b] = v, w
					if got := Place(color(uint8(p[0]), uint8(p[1]), uint8(p[2]), uint8(p[3]))); got != modelPlace(p) {
						t.Fatalf("%v: %d, not %d", p, got, modelPlace(p))
					}
				}
			}
		}
	}
}

// P26.1: a text is a file's, if it begins with the sign, whatever stands behind it.
func TestIs(t *testing.T) {
	for _, s := range []string{"qoif", "qoif\x00", "qoifqoif", head(0, 0), files()[0].text} {
		if !Is(s) {
			t.Errorf("%q is none", s)
		}
	}
	for _, s := range []string{"", "q", "qo", "qoi", " qoif", "Qoif", "qoiF", "qoi\x00", "fioq", "\x00qoif", "qqoif", "farbfeld", "oif"} {
		if Is(s) {
			t.Errorf("%q is one", s)
		}
	}
	for i := range 4 {
		for v := range 256 {
			b := []byte("qoif")
			b[i] = byte(v)
			if Is(string(b)) != (string(b) == "qoif") {
				t.Errorf("%q", b)
			}
		}
	}
}

// sidesOf holds the sides of a head against the model; the place is behind it, if nothing is wrong.
func sidesOf(t *testing.T, g api.Budget, text string, from int) (int, int, api.Fault) {
	t.Helper()
	s := source(t, g, text)
	s.Seek(from)
	w, h, f := Sides(s)
	c := &cursor{text: text, at: from, most: max(g.MaxWork, 0)}
	width, height, want := modelHead(c)
	if w != width || h != height || f != want || s.Ledger().Steps() != c.steps || f.Kind == 0 && s.At() != from+14 {
		t.Errorf("%q from %d on: %d by %d, %+v, %d steps, not %d by %d, %+v, %d", text, from, w, h, f, s.Ledger().Steps(), width, height, want, c.steps)
	}
	if s.Ledger().Peak() != 0 {
		t.Errorf("%q: %d bytes were kept", text, s.Ledger().Peak())
	}
	return w, h, f
}

// P26.1: sides of all heads about their ends; what the ledger lets isn't asked.
func TestSides(t *testing.T) {
	sides := []int{0, 1, 2, 255, 256, 257, 16383, 16384, 16385, 65535, 65536, 1 << 24, 1 << 31, 1<<32 - 1}
	g := api.Budget{MaxWork: 1}
	for _, w := range sides {
		for _, h := range sides {
			width, height, f := sidesOf(t, g, head(w, h), 0)
			want := api.Fault{}
			switch {
			case w == 0:
				want = bad(api.Malformed, 4)
			case w > 16384:
				want = bad(api.Unsupported, 4)
			case h == 0:
				want = bad(api.Malformed, 8)
			case h > 16384:
				want = bad(api.Unsupported, 8)
			}
			if f != want || f.Kind == 0 && (width != w || height != h) || f.Kind != 0 && (width != 0 || height != 0) {
				t.Errorf("%d by %d: %d by %d, %+v", w, h, width, height, f)
			}
		}
	}
	if _, _, f := Sides(source(t, api.Budget{}, head(1, 1))); f != bad(api.Spent, 0) {
		t.Errorf("no step: %+v", f)
	}
}

// P26.1: each byte of a head, and any several, changed; cut off anywhere, and from a place on.
func TestHead(t *testing.T) {
	good := head(258, 4097)
	for i := range good {
		for v := range 256 {
			b := []byte(good)
			b[i] = byte(v)
			sidesOf(t, much, string(b), 0)
			sidesOf(t, much, "any"+string(b)+"!", 3)
		}
	}
	next := random(26)
	for range 20000 {
		b := []byte(good)
		for range 2 + next(4) {
			b[next(len(b))] = "\x00\x01\x02\x03\x04\x05\x40\x41\x80\xffqoif"[next(14)]
		}
		sidesOf(t, much, string(b), 0)
		same(t, api.Budget{MaxWork: 9}, string(b), 0)
	}
	for n := range good {
		for _, text := range []string{good[:n], head(0, 0)[:n], strings.Repeat("x", n)} {
			if w, h, f := sidesOf(t, much, text, 0); f != bad(api.Truncated, n) || w != 0 || h != 0 {
				t.Errorf("%q: %+v", text, f)
			}
			sidesOf(t, much, "x"+text, 1)
		}
	}
}

// P26.1: what is wrong with a head is told in the order of the list, ahead of what a budget doesn't let.
func TestHeadOrder(t *testing.T) {
	faults := []struct {
		change func(b []byte)
		f      api.Fault
	}{
		{func(b []byte) { b[0] = 'Q' }, bad(api.Malformed, 0)},
		{func(b []byte) { b[1] = 'O' }, bad(api.Malformed, 1)},
		{func(b []byte) { b[2] = 0 }, bad(api.Malformed, 2)},
		{func(b []byte) { b[3] = 'g' }, bad(api.Malformed, 3)},
		{func(b []byte) { b[7] = 0 }, bad(api.Malformed, 4)},
		{func(b []byte) { b[4] = 1 }, bad(api.Unsupported, 4)},
		{func(b []byte) { b[11] = 0 }, bad(api.Malformed, 8)},
		{func(b []byte) { b[10] = 0x41 }, bad(api.Unsupported, 8)},
		{func(b []byte) { b[12] = 5 }, bad(api.Malformed, 12)},
		{func(b []byte) { b[13] = 2 }, bad(api.Malformed, 13)},
	}
	for i, x := range faults {
		for _, y := range faults[i:] {
			b := []byte(files()[0].text)
			y.change(b)
			x.change(b)
			// Two that are at one place make a side of their own.
			if y.f.At != x.f.At || y.f == x.f {
				for _, g := range []api.Budget{much, {MaxWork: 1}} {
					if _, f := decode(t, source(t, g, string(b))); f != x.f {
						t.Errorf("%q: %+v, not %+v", b, f, x.f)
					}
				}
			}
			same(t, much, string(b), 0)
		}
	}
	for channels := range 256 {
		for space := range 256 {
			b := []byte(files()[0].text)
			b[12], b[13] = byte(channels), byte(space)
			want := api.Fault{}
			if channels != 3 && channels != 4 {
				want = bad(api.Malformed, 12)
			} else if space > 1 {
				want = bad(api.Malformed, 13)
			}
			if _, f := decode(t, source(t, much, string(b))); f != want {
				t.Errorf("%d, %d: %+v", channels, space, f)
			}
		}
	}
}

// P26.1: files by hand; their channels and their last number change nothing, and what stands behind isn't looked at.
func TestDecode(t *testing.T) {
	for _, x := range files() {
		for _, more := range []string{"", "\x00", "\xff", "\xc0", tail, x.text} {
			for _, channels := range []string{"\x03\x00", "\x03\x01", "\x04\x00", "\x04\x01"} {
				text := x.text[:12] + channels + x.text[14:] + more
				expect(t, text, x.m, api.Fault{})
				same(t, much, text, 0)
			}
		}
	}
}

// P26.1: a file that is cut off anywhere is Truncated at its end.
func TestCutOff(t *testing.T) {
	for _, x := range files() {
		for n := range len(x.text) {
			expect(t, x.text[:n], api.Image{}, bad(api.Truncated, n))
		}
	}
}

// P26.1: a file is read from the source's place on, within what it goes over; places are those of the whole text.
func TestFrom(t *testing.T) {
	for _, x := range files() {
		text := "qoi" + x.text + "!"
		s := source(t, much, text)
		s.Seek(3)
		if m, f := decode(t, s); f != (api.Fault{}) || !raster.Same(m, x.m) || s.At() != len(text)-1 {
			t.Errorf("%q: %v, %+v, at %d", text, m, f, s.At())
		}
		w, _ := source(t, much, text).Window(3, len(x.text))
		if m, f := decode(t, w); f != (api.Fault{}) || !raster.Same(m, x.m) {
			t.Errorf("%q: %v, %+v", text, m, f)
		}
		w, _ = source(t, much, text).Window(3, len(x.text)-1)
		if _, f := decode(t, w); f != bad(api.Truncated, len(text)-2) {
			t.Errorf("%q: %+v", text, f)
		}
		for i := 3; i < len(text)-1; i++ {
			b := []byte(text)
			b[i] ^= 0x55
			same(t, api.Budget{MaxWidth: 99, MaxHeight: 99, MaxBytes: 9999, MaxWork: 9999}, string(b), 3)
		}
	}
	l := files()
	s := source(t, much, l[2].text+l[6].text)
	for _, m := range []api.Image{l[2].m, l[6].m} {
		if got, f := decode(t, s); f != (api.Fault{}) || !raster.Same(got, m) {
			t.Errorf("one behind the other: %v, %+v", got, f)
		}
	}
}

// P26.1: a step of each first byte, and each second one, behind pixels of all kinds.
func TestEachStep(t *testing.T) {
	for _, ahead := range []string{"\xc0", "\xff\x00\x00\x00\x00", "\xff\xff\xff\xff\xff", "\xff\x80\x7f\x01\xfe", "\xfe\xff\x00\x80", "\x05"} {
		for first := range 256 {
			for second := range 256 {
				step := ahead + string([]byte{byte(first), byte(second), 3, 2, 1})
				n := 2
				if first >= 0xc0 && first < 0xfe {
					n = first - 0xc0 + 2
				}
				size := map[bool]int{true: 2, false: 1}[first >= 128 && first < 192]
				if first >= 0xfe {
					size = first - 0xfe + 4
				}
				if _, f := same(t, much, head(n, 1)+step[:len(ahead)+size]+tail, 0); f.Kind != 0 {
					t.Errorf("%x: %+v", step, f)
				}
			}
		}
	}
}

// P26.1: a run of any length, where any number of pixels lack: too many are Malformed at its first byte, and no step of work is asked for.
func TestRuns(t *testing.T) {
	for n := 1; n <= 62; n++ {
		for _, lack := range []int{1, 2, n - 1, n, n + 1, 61, 62, 63, 64} {
			for _, ahead := range []string{"", "\xfe\x01\x02\x03", "\xff\x01\x02\x03\x04\xa0\x88"} {
				told := strings.Count(ahead, "\x01") + strings.Count(ahead, "\xa0")
				run := string([]byte{byte(0xc0 + n - 1)})
				if lack < 1 {
					continue
				}
				text := head(1, told+lack) + ahead + run
				want := bad(api.Malformed, 14+len(ahead))
				if n < lack {
					want = bad(api.Truncated, len(text))
				} else if n == lack {
					text += tail
					want = api.Fault{}
				}
				s := source(t, much, text)
				if _, f := decode(t, s); f != want {
					t.Errorf("%d of %d: %+v", n, lack, f)
				}
				_, _, steps := model(much, text, 0)
				if s.Ledger().Steps() != steps {
					t.Errorf("%d of %d: %d steps, not %d", n, lack, s.Ledger().Steps(), steps)
				}
			}
		}
	}
}

// P26.1: a pixel of each step stands at its place, and at no other: behind it each of the seen ones is asked for.
func TestSeen(t *testing.T) {
	for _, steps := range []string{
		"", "\xc0", "\xfd", "\x6b", "\xa0\x88", "\xfe\x00\x00\x00", "\xff\x00\x00\x00\x00", "\x07",
		"\xfe\x01\x02\x03\x7f\xa1\x79\xc3\xff\x09\x08\x07\x06\x35\x22", "\xff\x00\x00\x00\x40\x00\xc1", "\xfe\x15\x00\x00\xfe\x00\x00\x09\x3f\x3e",
	} {
		for n := range 64 {
			right := 0
			for count := 1; count < 80; count++ {
				// Of one count nothing is wrong, that of the pixels which these steps tell.
				if _, f := same(t, much, head(count, 1)+steps+string([]byte{byte(n)})+tail, 0); f.Kind == 0 {
					right++
				}
			}
			if right == 0 {
				t.Errorf("%x, and %d: no file", steps, n)
			}
		}
	}
}

// P26.1: each of the eight bytes behind the pixels that is another one is Malformed at it, the first of several.
func TestEnd(t *testing.T) {
	for _, x := range files() {
		from := len(x.text) - 8
		for i := range 8 {
			for v := range 256 {
				b := []byte(x.text)
				if b[from+i] == byte(v) {
					continue
				}
				b[from+i] = byte(v)
				expect(t, string(b), api.Image{}, bad(api.Malformed, from+i))
				expect(t, string(b[:from+i+1]), api.Image{}, bad(api.Malformed, from+i))
				expect(t, string(b[:from+i]), api.Image{}, bad(api.Truncated, from+i))
				for k := i + 1; k < 8; k++ {
					b[from+k] ^= 0xff
				}
				expect(t, string(b), api.Image{}, bad(api.Malformed, from+i))
			}
		}
	}
}

// P26.1: what a budget doesn't let of the raster is Spent behind the head, ahead of what is wrong with the rest.
func TestSpentRaster(t *testing.T) {
	for _, x := range files() {
		need := api.Budget{MaxWidth: x.m.Width, MaxHeight: x.m.Height, MaxBytes: len(x.m.Pix), MaxWork: x.steps}
		for _, change := range []func(g *api.Budget){
			func(g *api.Budget) { g.MaxWidth-- },
			func(g *api.Budget) { g.MaxHeight-- },
			func(g *api.Budget) { g.MaxWidth = math.MinInt },
			func(g *api.Budget) { g.MaxHeight = 0 },
			func(g *api.Budget) { g.MaxBytes-- },
			func(g *api.Budget) { g.MaxBytes = 0 },
			func(g *api.Budget) { g.MaxBytes = -1 },
			func(g *api.Budget) { g.MaxBytes--; g.MaxWork = 1 },
		} {
			g := need
			change(&g)
			for _, text := range []string{x.text, x.text[:14], x.text[:14] + "\xfd\xfd\xfd"} {
				s := source(t, g, text)
				if _, f := decode(t, s); f != bad(api.Spent, 14) || s.At() != 14 || s.Ledger().Peak() != 0 || s.Ledger().Steps() != 1 {
					t.Errorf("%.40q by %+v: %+v, at %d", text, g, f, s.At())
				}
			}
			b := []byte(x.text)
			b[13] = 2
			if _, f := decode(t, source(t, g, string(b))); f != bad(api.Malformed, 13) {
				t.Errorf("a wrong head by %+v: %+v", g, f)
			}
		}
		s := source(t, need, x.text)
		if m, f := decode(t, s); f != (api.Fault{}) || !raster.Same(m, x.m) || s.Ledger().Steps() != x.steps || s.Ledger().Peak() != len(x.m.Pix) {
			t.Errorf("%.40q by its need: %v, %+v, %d steps, %d bytes", x.text, m, f, s.Ledger().Steps(), s.Ledger().Peak())
		}
	}
}

// P26.1: by less steps than are enough it is Spent at the source's place, and no bytes are kept; by those and by more it is told.
func TestSteps(t *testing.T) {
	for _, x := range files() {
		for steps := range x.steps + 3 {
			g := much
			g.MaxWork = steps
			s := source(t, g, x.text)
			m, f := decode(t, s)
			if steps < x.steps && (f != bad(api.Spent, s.At()) || s.Ledger().Steps() != steps) {
				t.Errorf("%.40q by %d steps: %+v, at %d, %d were done", x.text, steps, f, s.At(), s.Ledger().Steps())
			}
			if steps >= x.steps && (f != (api.Fault{}) || !raster.Same(m, x.m)) {
				t.Errorf("%.40q by %d steps: %v, %+v", x.text, steps, m, f)
			}
			same(t, g, x.text, 0)
			for n := range len(x.text) {
				same(t, g, x.text[:n], 0)
			}
		}
	}
}

// P26.1: with a ledger that refused something ahead nothing is read.
func TestBroken(t *testing.T) {
	s := source(t, much, "x"+files()[0].text)
	s.Seek(1)
	s.Ledger().Take(-1)
	if _, f := decode(t, s); f != bad(api.Spent, 1) || s.At() != 1 {
		t.Errorf("%+v, at %d", f, s.At())
	}
	if w, h, f := Sides(s); w != 0 || h != 0 || f != bad(api.Spent, 1) {
		t.Errorf("%d by %d, %+v", w, h, f)
	}
}

// P26.1: a raster is open, and the caller's: it can be freed, and a second one has bytes of its own.
func TestOpen(t *testing.T) {
	x := files()[4]
	s := source(t, much, x.text+x.text)
	one, f := Decode(s)
	other, g := Decode(s)
	if f != (api.Fault{}) || g != f || s.Ledger().Bytes() != 32 || s.Left() != 0 {
		t.Fatal(f, g, s.Ledger().Bytes())
	}
	if one.Width() != 2 || one.Height() != 2 || !one.Set(0, 0, black) || !one.Free() || s.Ledger().Bytes() != 16 {
		t.Error("the first one isn't open")
	}
	if m, ok := other.Image(); !ok || !raster.Same(m, x.m) {
		t.Errorf("%v, %t", m, ok)
	}
}

// anySteps is steps of any kinds, that tell so many pixels at least.
func anySteps(next func(n int) int, n int) string {
	var b []byte
	for told := 0; told < n; told++ {
		first := next(256)
		switch next(8) {
		case 0:
			first = 0xfe + next(2)
		case 1:
			first = 0xc0 + next(4)
		}
		b = append(b, byte(first))
		switch {
		case first >= 0xfe:
			for range first - 0xfe + 3 {
				b = append(b, byte(next(256)))
			}
		case first >= 0xc0:
			told += first - 0xc0
		case first>>6 == 2:
			b = append(b, byte(next(256)))
		}
	}
	return string(b)
}

// P26.1: any bytes are what the chapter's words make of them, by any budget.
func TestAnyBytes(t *testing.T) {
	next := random(7)
	for range 20000 {
		w, h := 1+next(20), 1+next(20)
		text := head(w, h) + anySteps(next, w*h) + tail
		g := api.Budget{MaxWidth: 20, MaxHeight: 20, MaxBytes: 1600, MaxWork: 9999}
		switch next(4) {
		case 0:
			text = text[:next(len(text))]
		case 1:
			b := []byte(text)
			for range 1 + next(3) {
				b[14+next(len(b)-14)] = byte(next(256))
			}
			text = string(b)
		case 2:
			g = api.Budget{MaxWidth: 1 + next(25), MaxHeight: 1 + next(25), MaxBytes: next(2000), MaxWork: next(700)}
		}
		m, f := same(t, g, text, 0)
		if f.Kind != api.NoFault && (f.Kind > api.Spent || f.Format != api.QOI || f.At < 0 || f.At > len(text)) {
			t.Errorf("%q: %+v", text, f)
		}
		small := api.Budget{MaxWidth: next(25), MaxHeight: next(25), MaxBytes: next(1700), MaxWork: next(900)}
		k, e := same(t, small, text, 0)
		if e.Kind != api.Spent && f.Kind != api.Spent && (e != f || !raster.Same(k, m)) {
			t.Errorf("%q by %+v: %v, %+v, not %v, %+v", text, small, k, e, m, f)
		}
	}
	for range 20000 {
		b := make([]byte, next(60))
		for i := range b {
			b[i] = byte(next(256))
		}
		same(t, much, head(1+next(4), 1+next(4))+string(b), 0)
		same(t, api.Budget{MaxWidth: 9, MaxHeight: 9, MaxBytes: 9999, MaxWork: 9999}, string(b), 0)
	}
}
