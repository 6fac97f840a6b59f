package ff

import (
	"encoding/binary"
	"math"
	"strings"
	"testing"

	"tintype/api"
	"tintype/ledger"
	"tintype/raster"
	"tintype/src"
)

// much is a budget that lets everything.
var much = api.Budget{MaxWidth: math.MaxInt, MaxHeight: math.MaxInt, MaxBytes: math.MaxInt, MaxWork: math.MaxInt}

// random tells numbers below n, of a seed of its own.
func random(seed uint64) func(n int) int {
	return func(n int) int {
		seed = seed*6364136223846793005 + 1442695040888963407
		return int(seed>>33) % n
	}
}

func source(t *testing.T, g api.Budget, text string) *src.Src {
	t.Helper()
	s, e := src.New(ledger.New(g), text)
	if e != api.OK {
		t.Fatalf("no source: %d", e)
	}
	return s
}

func bad(kind, at int) api.Fault {
	return api.Fault{Kind: kind, Format: api.FF, At: at}
}

// image is one of such channels.
func image(width, height int, pix ...byte) api.Image {
	return api.Image{Width: width, Height: height, Pix: pix}
}

// head is the bytes of one with such sides.
func head(width, height int) string {
	b := binary.BigEndian.AppendUint32([]byte("farbfeld"), uint32(width))
	return string(binary.BigEndian.AppendUint32(b, uint32(height)))
}

// samples are the bytes of numbers, two each.
func samples(l ...int) string {
	var b []byte
	for _, v := range l {
		b = binary.BigEndian.AppendUint16(b, uint16(v))
	}
	return string(b)
}

// decode is the image of a source's file, or what is wrong. Its ledger keeps just the bytes of the image more, or none.
func decode(t *testing.T, s *src.Src) (api.Image, api.Fault) {
	t.Helper()
	had := s.Ledger().Bytes()
	r, f := Decode(s)
	if f.Kind != api.NoFault {
		if r != nil || s.Ledger().Bytes() != had {
			t.Errorf("%+v: beside it %v, and %d bytes", f, r, s.Ledger().Bytes()-had)
		}
		return api.Image{}, f
	}
	if f != (api.Fault{}) {
		t.Errorf("no fault is %+v", f)
	}
	m, ok := r.Image()
	if !ok || !raster.Right(m) || s.Ledger().Bytes() != had+len(m.Pix) || s.Ledger().Peak() != had+len(m.Pix) {
		t.Errorf("%d by %d, %t, of %d bytes: %d more are kept", m.Width, m.Height, ok, len(m.Pix), s.Ledger().Bytes()-had)
	}
	return m, f
}

// expect holds a whole text against its image, or what is wrong.
func expect(t *testing.T, text string, m api.Image, f api.Fault) {
	t.Helper()
	got, g := decode(t, source(t, much, text))
	if g != f || !raster.Same(got, m) {
		t.Errorf("%.60q: %v, %+v, not %v, %+v", text, got, g, m, f)
	}
}

// nearest is the number from 0 to 255 that is nearest to a sample of 65535, of two as near the greater one.
func nearest(v int) byte {
	best := 0
	distance := func(eight int) int { return max(eight*65535-v*255, v*255-eight*65535) }
	for eight := max(v/257-2, 0); eight <= min(v/257+2, 255); eight++ {
		if distance(eight) <= distance(best) {
			best = eight
		}
	}
	return byte(best)
}

// cursor reads a text as layer 5 does, by so many steps.
type cursor struct {
	text        string
	at          int
	steps, most int
}

// work does a step; what is wrong, if it isn't let.
func (c *cursor) work() api.Fault {
	if c.steps == c.most {
		return bad(api.Spent, c.at)
	}
	c.steps++
	return api.Fault{}
}

// take is the next n bytes, as numbers.
func (c *cursor) take(n int) ([]int, api.Fault) {
	if f := c.work(); f.Kind != 0 {
		return nil, f
	}
	if n > len(c.text)-c.at {
		return nil, bad(api.Truncated, len(c.text))
	}
	var l []int
	for range n {
		l = append(l, int(c.text[c.at]))
		c.at++
	}
	return l, api.Fault{}
}

// modelHead is the sides of a file, or what is wrong with its head.
func modelHead(c *cursor) (w, h int, f api.Fault) {
	from := c.at
	b, f := c.take(16)
	if f.Kind != 0 {
		return 0, 0, f
	}
	for i, v := range []int{'f', 'a', 'r', 'b', 'f', 'e', 'l', 'd'} {
		if b[i] != v {
			return 0, 0, bad(api.Malformed, from+i)
		}
	}
	var sides [2]int
	for i := range sides {
		at := 8 + 4*i
		sides[i] = b[at]*1<<24 + b[at+1]*1<<16 + b[at+2]*1<<8 + b[at+3]
		if sides[i] == 0 {
			return 0, 0, bad(api.Malformed, from+at)
		}
		if sides[i] > 16384 {
			return 0, 0, bad(api.Unsupported, from+at)
		}
	}
	return sides[0], sides[1], api.Fault{}
}

// model is what the chapter's words make of a text from a place on, by a budget, and how many steps were done.
func model(g api.Budget, text string, from int) (api.Image, api.Fault, int) {
	c := &cursor{text: text, at: from, most: max(g.MaxWork, 0)}
	w, h, f := modelHead(c)
	if f.Kind != 0 {
		return api.Image{}, f, c.steps
	}
	if w > g.MaxWidth || h > g.MaxHeight || 4*w*h > g.MaxBytes {
		return api.Image{}, bad(api.Spent, c.at), c.steps
	}
	m := image(w, h)
	for range w * h {
		b, f := c.take(8)
		if f.Kind == 0 {
			f = c.work()
		}
		if f.Kind != 0 {
			return api.Image{}, f, c.steps
		}
		for i := range 4 {
			m.Pix = append(m.Pix, nearest(b[2*i]*256+b[2*i+1]))
		}
	}
	return m, api.Fault{}, c.steps
}

// same holds a text from a place on against the model, by a budget.
func same(t *testing.T, g api.Budget, text string, from int) (api.Image, api.Fault) {
	t.Helper()
	s := source(t, g, text)
	s.Seek(from)
	m, f := decode(t, s)
	want, h, steps := model(g, text, from)
	if f != h || !raster.Same(m, want) || s.Ledger().Steps() != steps {
		t.Errorf("%.80q from %d on, by %+v: %v, %+v, %d steps, not %v, %+v, %d", text, from, g, m, f, s.Ledger().Steps(), want, h, steps)
	}
	return m, f
}

// file is one, its image, and how many steps it needs.
type file struct {
	text  string
	m     api.Image
	steps int
}

// files are some, by hand; each ends with its last pixel.
func files() []file {
	return []file{
		{head(1, 1) + samples(0xffff, 0x8080, 0, 0xffff), image(1, 1, 255, 128, 0, 255), 1 + 2},
		{head(2, 1) + samples(0, 0, 0, 0, 0x0101, 0x0202, 0x0303, 0x0404), image(2, 1, 0, 0, 0, 0, 1, 2, 3, 4), 1 + 4},
		// 128 is nearest to 0, 129 to 257, which is 1; 65406 to 254 times 257, 65407 to 255 times.
		{head(1, 2) + samples(128, 129, 65406, 65407, 256, 257, 385, 386), image(1, 2, 0, 1, 254, 255, 1, 1, 1, 2), 1 + 4},
		{head(3, 2) + samples(0x0a0a, 1, 2, 3, 0x0b0b, 4, 5, 6, 0x0c0c, 7, 8, 9, 0x0d00, 0, 0, 1, 0x0e00, 0, 0, 2, 0x0f00, 0, 0, 0xfffe),
			image(3, 2, 10, 0, 0, 0, 11, 0, 0, 0, 12, 0, 0, 0, 13, 0, 0, 0, 14, 0, 0, 0, 15, 0, 0, 255), 1 + 12},
		{head(2, 3) + strings.Repeat("farbfeld", 6), image(2, 3, []byte(strings.Repeat("\x66\x72\x66\x6c", 6))...), 1 + 12},
	}
}

// P27.1: the chapter's example.
func TestExample(t *testing.T) {
	const text = "farbfeld\x00\x00\x00\x01\x00\x00\x00\x01\xff\xff\x80\x80\x00\x00\xff\xff"
	expect(t, text, image(1, 1, 255, 128, 0, 255), api.Fault{})
	if got, e := Write(image(1, 1, 255, 128, 0, 255)); got != text || e != api.OK {
		t.Errorf("%q, %d", got, e)
	}
}

// P27.1: a text is a file's, if it begins with the sign, whatever stands behind it.
func TestIs(t *testing.T) {
	for _, s := range []string{"farbfeld", "farbfeld\x00", "farbfeldfarbfeld", head(0, 0), files()[0].text} {
		if !Is(s) {
			t.Errorf("%q is none", s)
		}
	}
	for _, s := range []string{"", " farbfeld", "Farbfeld", "FARBFELD", "qoif", "\x00farbfeld", "ffarbfeld", "arbfeld", "farb feld"} {
		if Is(s) {
			t.Errorf("%q is one", s)
		}
	}
	for i := range 8 {
		if s := "farbfeld"[:i]; Is(s) {
			t.Errorf("%q is one", s)
		}
		for v := range 256 {
			b := []byte("farbfeld")
			b[i] = byte(v)
			if Is(string(b)) != (string(b) == "farbfeld") {
				t.Errorf("%q", b)
			}
		}
	}
}

// sidesOf holds the sides of a head against the model; the place is behind it, if nothing is wrong.
func sidesOf(t *testing.T, g api.Budget, text string, from int) (int, int, api.Fault) {
	t.Helper()
	s := source(t, g, text)
	s.Seek(from)
	w, h, f := Sides(s)
	c := &cursor{text: text, at: from, most: max(g.MaxWork, 0)}
	width, height, want := modelHead(c)
	if w != width || h != height || f != want || s.Ledger().Steps() != c.steps || f.Kind == 0 && s.At() != from+16 {
		t.Errorf("%q from %d on: %d by %d, %+v, %d steps, not %d by %d, %+v, %d", text, from, w, h, f, s.Ledger().Steps(), width, height, want, c.steps)
	}
	if s.Ledger().Peak() != 0 {
		t.Errorf("%q: %d bytes were kept", text, s.Ledger().Peak())
	}
	return w, h, f
}

// P27.1: sides of all heads about their ends; what the ledger lets isn't asked.
func TestSides(t *testing.T) {
	sides := []int{0, 1, 2, 255, 256, 257, 16383, 16384, 16385, 65535, 65536, 1 << 24, 1 << 31, 1<<32 - 1}
	g := api.Budget{MaxWork: 1}
	for _, w := range sides {
		for _, h := range sides {
			width, height, f := sidesOf(t, g, head(w, h), 0)
			want := api.Fault{}
			switch {
			case w == 0:
				want = bad(api.Malformed, 8)
			case w > 16384:
				want = bad(api.Unsupported, 8)
			case h == 0:
				want = bad(api.Malformed, 12)
			case h > 16384:
				want = bad(api.Unsupported, 12)
			}
			if f != want || f.Kind == 0 && (width != w || height != h) || f.Kind != 0 && (width != 0 || height != 0) {
				t.Errorf("%d by %d: %d by %d, %+v", w, h, width, height, f)
			}
		}
	}
	if _, _, f := Sides(source(t, api.Budget{}, head(1, 1))); f != bad(api.Spent, 0) {
		t.Errorf("no step: %+v", f)
	}
}

// P27.1: each byte of a head, and any several, changed; cut off anywhere, and from a place on.
func TestHead(t *testing.T) {
	good := head(258, 4097)
	for i := range good {
		for v := range 256 {
			b := []byte(good)
			b[i] = byte(v)
			sidesOf(t, much, string(b), 0)
			sidesOf(t, much, "any"+string(b)+"!", 3)
		}
	}
	next := random(27)
	for range 20000 {
		b := []byte(good)
		for range 2 + next(4) {
			b[next(len(b))] = "\x00\x01\x02\x03\x40\x41\x80\xfffarbeld"[next(15)]
		}
		sidesOf(t, much, string(b), 0)
		same(t, api.Budget{MaxWork: 9}, string(b), 0)
	}
	for n := range good {
		for _, text := range []string{good[:n], head(0, 0)[:n], strings.Repeat("x", n)} {
			if w, h, f := sidesOf(t, much, text, 0); f != bad(api.Truncated, n) || w != 0 || h != 0 {
				t.Errorf("%q: %+v", text, f)
			}
			sidesOf(t, much, "x"+text, 1)
		}
	}
}

// P27.1: what is wrong with a head is told in the order of the list, ahead of what a budget doesn't let.
func TestHeadOrder(t *testing.T) {
	faults := []struct {
		at   int
		with byte
		f    api.Fault
	}{
		{0, 'F', bad(api.Malformed, 0)}, {1, 'A', bad(api.Malformed, 1)}, {2, 0, bad(api.Malformed, 2)}, {3, 'f', bad(api.Malformed, 3)},
		{4, 'b', bad(api.Malformed, 4)}, {5, 'E', bad(api.Malformed, 5)}, {6, ' ', bad(api.Malformed, 6)}, {7, 'D', bad(api.Malformed, 7)},
		{11, 0, bad(api.Malformed, 8)}, {8, 1, bad(api.Unsupported, 8)}, {15, 0, bad(api.Malformed, 12)}, {14, 0x41, bad(api.Unsupported, 12)},
	}
	for i, x := range faults {
		for _, y := range faults[i:] {
			// Two that are at one place make a side of their own.
			if y.f.At == x.f.At && y.f != x.f {
				continue
			}
			b := []byte(files()[0].text)
			b[x.at], b[y.at] = x.with, y.with
			for _, g := range []api.Budget{much, {MaxWork: 1}} {
				if _, f := decode(t, source(t, g, string(b))); f != x.f {
					t.Errorf("%q: %+v, not %+v", b, f, x.f)
				}
			}
		}
	}
}

// P27.1: files by hand; what stands behind isn't looked at.
func TestDecode(t *testing.T) {
	for _, x := range files() {
		for _, more := range []string{"", "\x00", "\xff", "12345678", x.text} {
			expect(t, x.text+more, x.m, api.Fault{})
			same(t, much, x.text+more, 0)
		}
	}
}

// P27.1: all samples, in each channel.
func TestSamples(t *testing.T) {
	for channel := range 4 {
		var text []byte
		m := image(256, 256)
		for v := range 1 << 16 {
			p := [4]int{v ^ 0x5a5a, 255 * 257, 0, v / 2}
			p[channel] = v
			text = append(text, samples(p[:]...)...)
			for _, w := range p {
				m.Pix = append(m.Pix, nearest(w))
			}
		}
		got, f := decode(t, source(t, much, head(256, 256)+string(text)))
		if f != (api.Fault{}) {
			t.Fatal(f)
		}
		for i, v := range m.Pix {
			if got.Pix[i] != v {
				t.Fatalf("the byte %d: %d, not %d", i, got.Pix[i], v)
			}
		}
	}
}

// P27.1: a file that is cut off anywhere is Truncated at its end.
func TestCutOff(t *testing.T) {
	for _, x := range files() {
		for n := range len(x.text) {
			expect(t, x.text[:n], api.Image{}, bad(api.Truncated, n))
		}
	}
}

// P27.1: a file is read from the source's place on, within what it goes over; places are those of the whole text.
func TestFrom(t *testing.T) {
	for _, x := range files() {
		text := "far" + x.text + "!"
		s := source(t, much, text)
		s.Seek(3)
		if m, f := decode(t, s); f != (api.Fault{}) || !raster.Same(m, x.m) || s.At() != len(text)-1 {
			t.Errorf("%q: %v, %+v, at %d", text, m, f, s.At())
		}
		w, _ := source(t, much, text).Window(3, len(x.text))
		if m, f := decode(t, w); f != (api.Fault{}) || !raster.Same(m, x.m) {
			t.Errorf("%q: %v, %+v", text, m, f)
		}
		w, _ = source(t, much, text).Window(3, len(x.text)-1)
		if _, f := decode(t, w); f != bad(api.Truncated, len(text)-2) {
			t.Errorf("%q: %+v", text, f)
		}
		for i := 3; i < len(text)-1; i++ {
			b := []byte(text)
			b[i] ^= 0x55
			same(t, api.Budget{MaxWidth: 99, MaxHeight: 99, MaxBytes: 9999, MaxWork: 9999}, string(b), 3)
		}
	}
	l := files()
	s := source(t, much, l[1].text+l[3].text)
	for _, m := range []api.Image{l[1].m, l[3].m} {
		if got, f := decode(t, s); f != (api.Fault{}) || !raster.Same(got, m) {
			t.Errorf("one behind the other: %v, %+v", got, f)
		}
	}
}

// P27.1: what a budget doesn't let of the raster is Spent behind the head, ahead of what is wrong with the rest.
func TestSpentRaster(t *testing.T) {
	for _, x := range files() {
		need := api.Budget{MaxWidth: x.m.Width, MaxHeight: x.m.Height, MaxBytes: len(x.m.Pix), MaxWork: x.steps}
		for _, change := range []func(g *api.Budget){
			func(g *api.Budget) { g.MaxWidth-- },
			func(g *api.Budget) { g.MaxHeight-- },
			func(g *api.Budget) { g.MaxWidth = math.MinInt },
			func(g *api.Budget) { g.MaxHeight = 0 },
			func(g *api.Budget) { g.MaxBytes-- },
			func(g *api.Budget) { g.MaxBytes = 0 },
			func(g *api.Budget) { g.MaxBytes = -1 },
			func(g *api.Budget) { g.MaxBytes, g.MaxWork = 3, 1 },
		} {
			g := need
			change(&g)
			for _, text := range []string{x.text, x.text[:16], x.text[:len(x.text)-1]} {
				s := source(t, g, text)
				if _, f := decode(t, s); f != bad(api.Spent, 16) || s.At() != 16 || s.Ledger().Peak() != 0 || s.Ledger().Steps() != 1 {
					t.Errorf("%.40q by %+v: %+v, at %d", text, g, f, s.At())
				}
			}
		}
		s := source(t, need, x.text)
		if m, f := decode(t, s); f != (api.Fault{}) || !raster.Same(m, x.m) || s.Ledger().Steps() != x.steps || s.Ledger().Peak() != len(x.m.Pix) {
			t.Errorf("%.40q by its need: %v, %+v, %d steps, %d bytes", x.text, m, f, s.Ledger().Steps(), s.Ledger().Peak())
		}
	}
}

// P27.1: by less steps than are enough it is Spent at the source's place, and no bytes are kept; by those and by more it is told.
func TestSteps(t *testing.T) {
	for _, x := range files() {
		for steps := range x.steps + 3 {
			g := much
			g.MaxWork = steps
			s := source(t, g, x.text)
			m, f := decode(t, s)
			if steps < x.steps && (f != bad(api.Spent, s.At()) || s.Ledger().Steps() != steps) {
				t.Errorf("%.40q by %d steps: %+v, at %d, %d were done", x.text, steps, f, s.At(), s.Ledger().Steps())
			}
			if steps >= x.steps && (f != (api.Fault{}) || !raster.Same(m, x.m)) {
				t.Errorf("%.40q by %d steps: %v, %+v", x.text, steps, m, f)
			}
			for n := range len(x.text) {
				same(t, g, x.text[:n], 0)
			}
		}
	}
}

// P27.1: with a ledger that refused something ahead nothing is read.
func TestBroken(t *testing.T) {
	s := source(t, much, "x"+files()[0].text)
	s.Seek(1)
	s.Ledger().Take(-1)
	if _, f := decode(t, s); f != bad(api.Spent, 1) || s.At() != 1 {
		t.Errorf("%+v, at %d", f, s.At())
	}
	if w, h, f := Sides(s); w != 0 || h != 0 || f != bad(api.Spent, 1) {
		t.Errorf("%d by %d, %+v", w, h, f)
	}
}

// P27.1: a raster is open, and the caller's: it can be freed, and a second one has bytes of its own.
func TestOpen(t *testing.T) {
	x := files()[3]
	s := source(t, much, x.text+x.text)
	one, f := Decode(s)
	other, g := Decode(s)
	if f != (api.Fault{}) || g != f || s.Ledger().Bytes() != 48 || s.Left() != 0 {
		t.Fatal(f, g, s.Ledger().Bytes())
	}
	if one.Width() != 3 || one.Height() != 2 || !one.Set(0, 0, api.Color{}) || !one.Free() || s.Ledger().Bytes() != 24 {
		t.Error("the first one isn't open")
	}
	if m, ok := other.Image(); !ok || !raster.Same(m, x.m) {
		t.Errorf("%v, %t", m, ok)
	}
}

// P27.1: any bytes are what the chapter's words make of them, by any budget.
func TestAnyBytes(t *testing.T) {
	next := random(9)
	for range 2000 {
		w, h := 1+next(6), 1+next(6)
		b := make([]byte, 8*w*h+next(9)*next(2))
		for i := range b {
			b[i] = byte(next(256))
		}
		text := head(w, h) + string(b)
		g := api.Budget{MaxWidth: 6, MaxHeight: 6, MaxBytes: 144, MaxWork: 9999}
		switch next(3) {
		case 0:
			text = text[:next(len(text))]
		case 1:
			g = api.Budget{MaxWidth: next(8), MaxHeight: next(8), MaxBytes: next(160), MaxWork: next(80)}
		}
		m, f := same(t, g, text, 0)
		if f.Kind != api.NoFault && (f.Kind > api.Spent || f.Format != api.FF || f.At < 0 || f.At > len(text)) {
			t.Errorf("%q: %+v", text, f)
		}
		small := api.Budget{MaxWidth: next(8), MaxHeight: next(8), MaxBytes: next(160), MaxWork: next(80)}
		k, e := same(t, small, text, 0)
		if e.Kind != api.Spent && f.Kind != api.Spent && (e != f || !raster.Same(k, m)) {
			t.Errorf("%q by %+v: %v, %+v, not %v, %+v", text, small, k, e, m, f)
		}
		same(t, g, string(b), next(len(b)))
	}
}

// P27.1: files by hand, byte by byte.
func TestWrite(t *testing.T) {
	for _, x := range []struct {
		m    api.Image
		want string
	}{
		{image(1, 1, 0, 0, 0, 0), head(1, 1) + "\x00\x00\x00\x00\x00\x00\x00\x00"},
		{image(1, 1, 1, 2, 3, 4), head(1, 1) + "\x01\x01\x02\x02\x03\x03\x04\x04"},
		{image(2, 1, 255, 128, 127, 254, 0, 1, 0, 1), head(2, 1) + "\xff\xff\x80\x80\x7f\x7f\xfe\xfe\x00\x00\x01\x01\x00\x00\x01\x01"},
		{image(1, 2, 9, 8, 7, 6, 5, 4, 3, 2), head(1, 2) + "\x09\x09\x08\x08\x07\x07\x06\x06\x05\x05\x04\x04\x03\x03\x02\x02"},
	} {
		had := raster.Clone(x.m)
		if text, e := Write(x.m); text != x.want || e != api.OK || !raster.Same(x.m, had) {
			t.Errorf("%v: %q, %d", x.m, text, e)
		}
	}
}

// P27.1: an image that isn't right is ErrSize.
func TestWriteSize(t *testing.T) {
	for _, m := range []api.Image{
		{},
		{Width: 1, Height: 1},
		{Width: 1, Height: 1, Pix: make([]byte, 3)},
		{Width: 1, Height: 1, Pix: make([]byte, 5)},
		{Width: 1, Height: 1, Pix: make([]byte, 8)},
		{Width: 2, Height: 1, Pix: make([]byte, 4)},
		{Width: 0, Height: 1, Pix: make([]byte, 4)},
		{Width: 1, Height: 0},
		{Width: -1, Height: -1, Pix: make([]byte, 4)},
		{Width: api.MaxSide + 1, Height: 1, Pix: make([]byte, 4*(api.MaxSide+1))},
		{Width: 1, Height: api.MaxSide + 1, Pix: make([]byte, 4*(api.MaxSide+1))},
		{Width: 1 << 32, Height: 1 << 32, Pix: make([]byte, 4)},
		{Width: 1 << 31, Height: 1 << 31},
		{Width: math.MaxInt, Height: math.MaxInt},
		{Width: math.MinInt, Height: math.MinInt},
	} {
		if text, e := Write(m); text != "" || e != api.ErrSize {
			t.Errorf("%d by %d, %d bytes: %.40q, %d", m.Width, m.Height, len(m.Pix), text, e)
		}
	}
}

// P27.2: images of all bytes, of any sides, are decoded as they were; cut off they are Truncated.
func TestBack(t *testing.T) {
	next := random(72)
	for range 1000 {
		m := image(1+next(20), 1+next(20))
		for range 4 * m.Width * m.Height {
			m.Pix = append(m.Pix, byte(next(256)))
		}
		text, e := Write(m)
		if e != api.OK || !Is(text) || len(text) != 16+2*len(m.Pix) {
			t.Fatalf("%d by %d: %d, %d bytes", m.Width, m.Height, e, len(text))
		}
		expect(t, text, m, api.Fault{})
		expect(t, text+"\x00", m, api.Fault{})
		n := next(len(text))
		expect(t, text[:n], api.Image{}, bad(api.Truncated, n))
	}
	all := image(16, 4)
	for v := range 256 {
		all.Pix = append(all.Pix, byte(v))
	}
	text, _ := Write(all)
	expect(t, text, all, api.Fault{})
}

// P27.2: the greatest sides.
func TestGreat(t *testing.T) {
	pix := make([]byte, 8*api.MaxSide)
	for i := range pix {
		pix[i] = byte(i * 7 / 5)
	}
	for _, m := range []api.Image{{Width: api.MaxSide, Height: 2, Pix: pix}, {Width: 2, Height: api.MaxSide, Pix: pix}} {
		text, e := Write(m)
		if e != api.OK {
			t.Fatal(e)
		}
		expect(t, text, m, api.Fault{})
		if w, h, f := Sides(source(t, much, text)); w != m.Width || h != m.Height || f != (api.Fault{}) {
			t.Errorf("%d by %d, %+v", w, h, f)
		}
	}
}

// P27.1: each file is new: an image that is changed behind it changes none.
func TestWriteNew(t *testing.T) {
	m := image(1, 1, 9, 8, 7, 6)
	text, _ := Write(m)
	had := strings.Clone(text)
	clear(m.Pix)
	if again, _ := Write(m); text != had || again == text {
		t.Errorf("%q, %q", text, again)
	}
}
