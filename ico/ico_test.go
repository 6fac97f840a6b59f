package ico

import (
	"encoding/binary"
	"math"
	"strings"
	"testing"

	"tintype/api"
	"tintype/dibhead"
	"tintype/icodir"
	"tintype/ledger"
	"tintype/raster"
	"tintype/src"
)

// much is a budget that lets everything.
var much = api.Budget{MaxWidth: math.MaxInt, MaxHeight: math.MaxInt, MaxBytes: math.MaxInt, MaxWork: math.MaxInt}

// signPNG is what a window begins with that isn't decoded.
const signPNG = "\x89\x50\x4e\x47\x0d\x0a\x1a\x0a"

// random tells numbers below n, of a seed of its own.
func random(seed uint64) func(n int) int {
	return func(n int) int {
		seed = seed*6364136223846793005 + 1442695040888963407
		return int(seed>>33) % n
	}
}

func source(t *testing.T, g api.Budget, text string) *src.Src {
	t.Helper()
	s, e := src.New(ledger.New(g), text)
	if e != api.OK {
		t.Fatalf("no source: %d", e)
	}
	return s
}

func bad(kind, at int) api.Fault {
	return api.Fault{Kind: kind, Format: api.ICO, At: at}
}

// image is one of such colours.
func image(width, height int, l ...api.Color) api.Image {
	m := api.Image{Width: width, Height: height}
	for _, c := range l {
		m.Pix = append(m.Pix, c.R, c.G, c.B, c.A)
	}
	return m
}

func color(r, g, b, a uint8) api.Color { return api.Color{R: r, G: g, B: b, A: a} }

// through is a colour that is clear.
func through(c api.Color) api.Color { return color(c.R, c.G, c.B, 0) }

var (
	black = color(0, 0, 0, 255)
	white = color(255, 255, 255, 255)
	red   = color(255, 0, 0, 255)
	green = color(0, 255, 0, 255)
	blue  = color(0, 0, 255, 255)
)

func le32(l ...int) string {
	var b []byte
	for _, v := range l {
		b = binary.LittleEndian.AppendUint32(b, uint32(v))
	}
	return string(b)
}

func le16(l ...int) string {
	var b []byte
	for _, v := range l {
		b = binary.LittleEndian.AppendUint16(b, uint16(v))
	}
	return string(b)
}

// bitmap is that of an entry: its head's numbers, its table, its pixels and its mask. What isn't looked at is any.
type bitmap struct {
	size, width, height, depth, method, colors int
	table, pixels, mask                        string
}

// head is the bytes of the head.
func (p bitmap) head() string {
	if p.size == 12 {
		return le32(12) + le16(p.width, p.height, 1, p.depth)
	}
	b := le32(p.size, p.width, p.height) + le16(1, p.depth) + le32(p.method) + "unlookedat!!" + le32(p.colors) + "here"
	return b + strings.Repeat("\x00", max(0, p.size-len(b)))
}

func (p bitmap) text() string { return p.head() + p.table + p.pixels + p.mask }

// entry is one of a directory.
func entry(width, height, a, b, size, place int) string {
	return string([]byte{byte(width), byte(height), 7, 8}) + le16(a, b) + le32(size, place)
}

// single is a file whose only entry's window is all that stands behind it.
func single(kind, width, height int, window string) string {
	return le16(0, kind, 1) + entry(width, height, 1, 8, len(window), 22) + window
}

// icon is a file of just a bitmap.
func (p bitmap) icon() string { return single(1, p.width, p.height/2, p.text()) }

// file is a bitmap, its image, and how many entries are kept of it.
type file struct {
	bitmap
	m    api.Image
	kept int
}

// Tables of a few colours; what isn't looked at is any.
const (
	redBlue         = "\x00\x00\xff\x09\xff\x00\x00\x09"
	blackWhiteGreen = "\x00\x00\x00\x09\xff\xff\xff\x09\x00\xff\x00\x09"
)

// files are some of each depth; each ends with the last byte of its mask.
func files() []file {
	return []file{
		{bitmap{size: 40, width: 1, height: 2, depth: 24, pixels: "\x00\x00\x00\xff", mask: "\x00\xff\xff\xff"},
			image(1, 1, black), 0},
		{bitmap{size: 40, width: 2, height: 4, depth: 24, pixels: "\x00\x00\xff\x00\xff\x00!!\xff\x00\x00\xff\xff\xff!!", mask: "\x40\xff\xff\xff\xbf\x00\x00\x00"},
			image(2, 2, through(blue), white, red, through(green)), 0},
		{bitmap{size: 40, width: 1, height: 2, depth: 24, colors: 2, table: "anything", pixels: "\x01\x02\x03!", mask: "\x80\x00\x00\x00"},
			image(1, 1, color(3, 2, 1, 0)), 0},
		{bitmap{size: 40, width: 3, height: 4, depth: 1, table: redBlue, pixels: "\xa0\x00\x00\x00\x5f\xff\xff\xff", mask: "\x00\x00\x00\x00\x60\x00\x00\x00"},
			image(3, 2, red, through(blue), through(red), blue, red, blue), 2},
		{bitmap{size: 40, width: 1, height: 2, depth: 1, colors: 1, table: redBlue[:4], pixels: "\x7f\xff\xff\xff", mask: "\x80\x00\x00\x00"},
			image(1, 1, through(red)), 1},
		{bitmap{size: 40, width: 3, height: 2, depth: 4, colors: 3, table: blackWhiteGreen, pixels: "\x21\x0f\xff\xff", mask: "\xa0\x00\x00\x00"},
			image(3, 1, through(green), white, through(black)), 3},
		{bitmap{size: 40, width: 1, height: 4, depth: 8, colors: 2, table: redBlue, pixels: "\x00\xff\xff\xff\x01\xff\xff\xff", mask: "\x80\x00\x00\x00\x00\x00\x00\x00"},
			image(1, 2, blue, through(red)), 2},
		{bitmap{size: 40, width: 2, height: 4, depth: 16, pixels: "\x00\x7c\xe0\x03\x1f\x00\xff\xff", mask: "\x00\x00\x00\x00\x40\x00\x00\x00"},
			image(2, 2, blue, through(white), red, green), 0},
		{bitmap{size: 40, width: 1, height: 2, depth: 16, colors: 1, table: "none", pixels: "\x00\x7c!!", mask: "\x00\x00\x00\x00"},
			image(1, 1, red), 0},
		{bitmap{size: 40, width: 2, height: 2, depth: 32, pixels: "\x01\x02\x03\x04\x05\x06\x07\x00", mask: "\x00\x00\x00\x00"},
			image(2, 1, color(3, 2, 1, 4), color(7, 6, 5, 0)), 0},
		{bitmap{size: 40, width: 2, height: 2, depth: 32, colors: 3, table: "twelve bytes", pixels: "\x01\x02\x03\x00\x05\x06\x07\x00", mask: "\x40\x00\x00\x00"},
			image(2, 1, color(3, 2, 1, 255), color(7, 6, 5, 0)), 0},
		{bitmap{size: 40, width: 1, height: 4, depth: 32, pixels: "\x01\x02\x03\xff\x05\x06\x07\x01", mask: "\x80\x00\x00\x00\x00\x00\x00\x00"},
			image(1, 2, color(7, 6, 5, 1), color(3, 2, 1, 0)), 0},
		{bitmap{size: 40, width: 33, height: 2, depth: 1, table: redBlue, pixels: "\x00\x00\x00\x00\xff\x00\x00\x00", mask: "\x80\x00\x00\x01\x80\x00\x00\x00"},
			image(33, 1, append(append([]api.Color{through(red)}, repeat(red, 30)...), through(red), through(blue))...), 2},
	}
}

// repeat is a colour, n times.
func repeat(c api.Color, n int) (l []api.Color) {
	for range n {
		l = append(l, c)
	}
	return l
}

// decode is the image of a source's file, or what is wrong: the ledger keeps just the image's bytes more, or none.
func decode(t *testing.T, s *src.Src) (api.Image, api.Fault) {
	t.Helper()
	had := s.Ledger().Bytes()
	r, f := Decode(s)
	if f.Kind != api.NoFault {
		if r != nil || s.Ledger().Bytes() != had {
			t.Errorf("%+v: beside it %v, and %d bytes", f, r, s.Ledger().Bytes()-had)
		}
		return api.Image{}, f
	}
	if f != (api.Fault{}) {
		t.Errorf("no fault is %+v", f)
	}
	m, ok := r.Image()
	if !ok || !raster.Right(m) || s.Ledger().Bytes() != had+len(m.Pix) {
		t.Errorf("%d by %d, %t, of %d bytes: %d more are kept", m.Width, m.Height, ok, len(m.Pix), s.Ledger().Bytes()-had)
	}
	return m, f
}

// expect holds a whole text against its image, or what is wrong.
func expect(t *testing.T, text string, m api.Image, f api.Fault) {
	t.Helper()
	got, g := decode(t, source(t, much, text))
	if g != f || !raster.Same(got, m) {
		t.Errorf("%q: %v, %+v, not %v, %+v", text, got, g, m, f)
	}
}

// P25.1: the chapter's example.
func TestExample(t *testing.T) {
	text, e := Write(image(1, 1, black), Options{Depth: 24})
	if e != api.OK || len(text) != 6+16+40+4+4 {
		t.Errorf("%q, %d", text, e)
	}
	expect(t, text, image(1, 1, black), api.Fault{})
}

// P25.1: files of all depths, of icons and cursors; what stands behind, and between, isn't looked at.
func TestDecode(t *testing.T) {
	for _, x := range files() {
		for _, tail := range []string{"", "\x00", "\xff", "anything behind it"} {
			expect(t, x.icon()+tail, x.m, api.Fault{})
			expect(t, single(1, x.width, x.height/2, x.text()+tail), x.m, api.Fault{})
			expect(t, single(2, x.width, x.height/2, x.text()+tail), x.m, api.Fault{})
			gap := le16(0, 2, 1) + entry(x.width, x.height/2, 9, 9, len(x.text()), 22+len(tail)) + tail + x.text()
			expect(t, gap, x.m, api.Fault{})
		}
	}
}

// P25.1: a file that is cut off: its entry's window goes beyond the end.
func TestCutOff(t *testing.T) {
	for _, x := range files() {
		text := x.icon()
		for n := range len(text) {
			want := bad(api.Malformed, 18)
			if n < 22 {
				want = bad(api.Truncated, n)
			}
			expect(t, text[:n], api.Image{}, want)
		}
	}
}

// P25.1: a window that is cut off is Truncated at its end, whatever stands behind.
func TestCutOffWindow(t *testing.T) {
	for _, x := range files() {
		window := x.text()
		for n := range len(window) {
			for _, tail := range []string{"", "\xff", window[n:], strings.Repeat("\x00", 99)} {
				text := le16(0, 1, 1) + entry(x.width, x.height/2, 1, 8, n, 22) + window[:n] + tail
				expect(t, text, api.Image{}, bad(api.Truncated, 22+n))
			}
		}
	}
}

// P25.1: a file is read from the source's place on, within what it goes over; places within are counted from its first byte, those of faults in the source.
func TestFrom(t *testing.T) {
	for _, x := range files() {
		text := "\x00\x00\x01" + x.icon() + "!"
		s := source(t, much, text)
		s.Seek(3)
		if m, f := decode(t, s); f != (api.Fault{}) || !raster.Same(m, x.m) {
			t.Errorf("%q: %v, %+v", text, m, f)
		}
		w, _ := source(t, much, text).Window(3, len(x.icon()))
		if m, f := decode(t, w); f != (api.Fault{}) || !raster.Same(m, x.m) {
			t.Errorf("%q: %v, %+v", text, m, f)
		}
		w, _ = source(t, much, text).Window(3, len(x.icon())-1)
		if _, f := decode(t, w); f != bad(api.Malformed, 3+18) {
			t.Errorf("%q: %+v", text, f)
		}
		// The window is a byte shorter, and the mask's last byte behind it.
		s = source(t, much, "ab"+le16(0, 1, 1)+entry(x.width, x.height/2, 1, 8, len(x.text())-1, 22)+x.text())
		s.Seek(2)
		if _, f := decode(t, s); f != bad(api.Truncated, s.To()-1) {
			t.Errorf("%q: %+v", text, f)
		}
	}
}

// P25.1: the best entry's image; the others' windows aren't looked at, and may have bytes in common.
func TestBest(t *testing.T) {
	l := files()
	small, wide, deep := l[0].bitmap, l[1].bitmap, l[7].bitmap // 1 by 1, 2 by 2 of 24 bits, 2 by 2 of 16
	for _, x := range []struct {
		kind int
		bits [3]int
		best int
	}{
		{1, [3]int{32, 24, 16}, 1},
		{1, [3]int{32, 16, 24}, 2},
		{1, [3]int{8, 8, 8}, 1},
		{2, [3]int{1, 2, 3}, 1},
		{2, [3]int{3, 2, 1}, 1},
	} {
		all := []bitmap{small, wide, deep}
		images := []api.Image{l[0].m, l[1].m, l[7].m}
		for good := range all {
			text := le16(0, x.kind, 3)
			windows := ""
			for i, p := range all {
				window := p.text()
				if i != good {
					window = signPNG
				}
				text += entry(p.width, p.height/2, 1, x.bits[i], len(window), 54+len(windows))
				windows += window
			}
			if good == x.best {
				expect(t, text+windows, images[x.best], api.Fault{})
			} else {
				at := 54
				for i := range x.best {
					at += len(signPNG)
					if i == good {
						at += len(all[i].text()) - len(signPNG)
					}
				}
				expect(t, text+windows, api.Image{}, bad(api.Unsupported, at))
			}
		}
	}
	p := l[1]
	text := le16(0, 1, 2) + entry(1, 1, 1, 1, 0, 38) + entry(2, 2, 1, 1, len(p.text()), 38) + p.text()
	expect(t, text, p.m, api.Fault{})
	// A window that isn't the best one's may not go beyond the end, either.
	text = le16(0, 1, 2) + entry(1, 1, 1, 1, len(p.text())+1, 38) + entry(2, 2, 1, 1, len(p.text()), 38) + p.text()
	expect(t, text, api.Image{}, bad(api.Malformed, 18))
}

// P25.1: what is wrong with a directory, as layer 24 tells it.
func TestDirectory(t *testing.T) {
	x := files()[0]
	for _, y := range []struct {
		at, v int
		f     api.Fault
	}{
		{0, 1, bad(api.Malformed, 0)},
		{1, 1, bad(api.Malformed, 0)},
		{2, 0, bad(api.Malformed, 2)},
		{2, 3, bad(api.Malformed, 2)},
		{3, 1, bad(api.Malformed, 2)},
		{4, 0, bad(api.Malformed, 4)},
		{4, 2, bad(api.Malformed, 18)},
		{14, 255, bad(api.Malformed, 18)},
		{18, 21, bad(api.Malformed, 18)},
		{18, 23, bad(api.Malformed, 18)},
		{21, 1, bad(api.Malformed, 18)},
	} {
		b := []byte(x.icon())
		b[y.at] = byte(y.v)
		expect(t, string(b), api.Image{}, y.f)
		if h, w, f := Head(source(t, much, string(b))); h != (dibhead.Head{}) || w != nil || f != y.f {
			t.Errorf("%q: %+v, %v, %+v", b, h, w, f)
		}
	}
	expect(t, "", api.Image{}, bad(api.Truncated, 0))
}

// P25.1: a window that begins as a file of another format; one byte else, or less, and it is none.
func TestPNG(t *testing.T) {
	for _, tail := range []string{"", "\x00", "\x00\x00\x00\x0dIHDR"} {
		expect(t, single(1, 1, 1, signPNG+tail), api.Image{}, bad(api.Unsupported, 22))
		expect(t, single(2, 0, 0, signPNG+tail), api.Image{}, bad(api.Unsupported, 22))
		for at := range signPNG {
			for _, v := range []byte{0, 1, 0xff} {
				b := []byte(signPNG + tail)
				b[at] ^= v
				want := bad(api.Malformed, 22)
				if v == 0 {
					want = bad(api.Unsupported, 22)
				}
				expect(t, single(1, 1, 1, string(b)), api.Image{}, want)
			}
		}
	}
	for n := range signPNG {
		want := bad(api.Malformed, 22)
		if n < 4 {
			want = bad(api.Truncated, 22+n)
		}
		// What stands behind a window doesn't belong to it.
		text := le16(0, 1, 1) + entry(1, 1, 1, 8, n, 22) + signPNG
		expect(t, text, api.Image{}, want)
		expect(t, text[:22+n], api.Image{}, want)
	}
	x := files()[0].bitmap
	p := x.text()
	p = p[:4] + signPNG[4:] + p[8:]
	expect(t, single(1, 1, 1, p), api.Image{}, bad(api.Unsupported, 22+4))
}

// headed is a file whose window begins with a head, behind which is enough of anything.
func headed(width, height int, head string) string {
	return single(1, width, height, head+strings.Repeat("\x00", 99))
}

// numbers are those of a long head.
func numbers(size, width, height, planes, depth, method, colors int, masks ...int) string {
	b := le32(size, width, height) + le16(planes, depth) + le32(method, 0, 0, 0, colors, 0) + le32(masks...)
	return b + strings.Repeat("\x00", max(0, size-len(b)))
}

// P25.1: what is wrong with a head: first what layer 20 tells, then its size, its method, Top, its width, its height.
func TestHeadFaults(t *testing.T) {
	const w = 22
	for _, x := range []struct {
		width, height int
		head          string
		f             api.Fault
	}{
		{1, 1, numbers(41, 1, 2, 1, 24, 0, 0), bad(api.Malformed, w)},
		{1, 1, numbers(64, 1, 2, 1, 24, 0, 0), bad(api.Unsupported, w)},
		{1, 1, numbers(40, 0, 2, 1, 24, 0, 0), bad(api.Malformed, w+4)},
		{1, 1, numbers(40, 20000, 2, 1, 24, 0, 0), bad(api.Unsupported, w+4)},
		{1, 1, numbers(40, 1, 0, 1, 24, 0, 0), bad(api.Malformed, w+8)},
		{1, 1, numbers(40, 1, 20000, 1, 24, 0, 0), bad(api.Unsupported, w+8)},
		{1, 1, numbers(40, 1, 2, 0, 24, 0, 0), bad(api.Malformed, w+12)},
		{1, 1, numbers(40, 9, 9, 1, 25, 9, 0), bad(api.Unsupported, w+14)},
		{1, 1, numbers(40, 9, 9, 1, 24, 4, 0), bad(api.Unsupported, w+16)},
		{1, 1, numbers(40, 9, 9, 1, 24, 1, 0), bad(api.Malformed, w+16)},
		{1, 1, numbers(40, 9, 9, 1, 8, 1, 257), bad(api.Malformed, w+32)},
		{1, 1, numbers(40, 9, 9, 1, 32, 3, 0, 0xff, 0xff, 0xff), bad(api.Malformed, w+44)},
		{1, 1, numbers(52, 9, 9, 1, 32, 3, 0, 0xff, 0xff, 0xff), bad(api.Malformed, w+44)},
		{1, 1, le32(12) + le16(1, 2, 1, 24), bad(api.Unsupported, w)},
		{1, 1, numbers(52, 1, 2, 1, 24, 0, 0), bad(api.Unsupported, w)},
		{1, 1, numbers(56, 1, 2, 1, 24, 0, 0), bad(api.Unsupported, w)},
		{1, 1, numbers(108, 1, 2, 1, 24, 0, 0), bad(api.Unsupported, w)},
		{1, 1, numbers(124, 9, -9, 1, 16, 3, 0), bad(api.Unsupported, w)},
		{1, 1, numbers(40, 9, 9, 1, 8, 1, 0), bad(api.Unsupported, w+16)},
		{1, 1, numbers(40, 9, 9, 1, 4, 2, 0), bad(api.Unsupported, w+16)},
		{1, 1, numbers(40, 9, -9, 1, 32, 3, 0, 0xff0000, 0xff00, 0xff), bad(api.Unsupported, w+16)},
		{1, 1, numbers(40, 1, -2, 1, 24, 0, 0), bad(api.Malformed, w+8)},
		{1, 1, numbers(40, 9, -9, 1, 24, 0, 0), bad(api.Malformed, w+8)},
		{1, 1, numbers(40, 2, 2, 1, 24, 0, 0), bad(api.Malformed, w+4)},
		{0, 1, numbers(40, 1, 2, 1, 24, 0, 0), bad(api.Malformed, w+4)},
		{255, 1, numbers(40, 256, 3, 1, 24, 0, 0), bad(api.Malformed, w+4)},
		{1, 1, numbers(40, 1, 1, 1, 24, 0, 0), bad(api.Malformed, w+8)},
		{1, 1, numbers(40, 1, 3, 1, 24, 0, 0), bad(api.Malformed, w+8)},
		{1, 1, numbers(40, 1, 4, 1, 24, 0, 0), bad(api.Malformed, w+8)},
		{1, 0, numbers(40, 1, 256, 1, 24, 0, 0), bad(api.Malformed, w+8)},
		{1, 0, numbers(40, 1, 513, 1, 24, 0, 0), bad(api.Malformed, w+8)},
		{0, 3, numbers(40, 256, 3, 1, 24, 0, 0), bad(api.Malformed, w+8)},
	} {
		text := headed(x.width, x.height, x.head)
		// All of it comes ahead of the ledger's sides.
		for _, g := range []api.Budget{much, {MaxWork: 99}} {
			s := source(t, g, text)
			if _, f := decode(t, s); f != x.f {
				t.Errorf("%q: %+v, not %+v", text[:80], f, x.f)
			}
			if h, w, f := Head(source(t, g, text)); h != (dibhead.Head{}) || w != nil || f != x.f {
				t.Errorf("%q: %+v, %v, %+v, not %+v", text[:80], h, w, f, x.f)
			}
		}
	}
	// A head that is there is asked for all that is wrong with it ahead of the bytes behind it.
	expect(t, single(1, 1, 1, numbers(40, 1, 3, 1, 24, 0, 0)), api.Image{}, bad(api.Malformed, w+8))
	expect(t, single(1, 1, 1, numbers(40, 1, 2, 1, 24, 0, 0)), api.Image{}, bad(api.Truncated, w+40))
	expect(t, single(1, 1, 1, numbers(40, 1, 2, 1, 32, 3, 0)), api.Image{}, bad(api.Truncated, w+40))
}

// P25.1: the head, its height half of what it tells, and its window's source, behind it.
func TestHead(t *testing.T) {
	for _, x := range files() {
		for ahead := range 3 {
			s := source(t, api.Budget{MaxWork: 5}, "ab"[:ahead]+x.icon()+"more")
			s.Seek(ahead)
			h, w, f := Head(s)
			if f != (api.Fault{}) || w == nil {
				t.Fatalf("%q: %v, %+v", x.icon(), w, f)
			}
			want, _ := dibhead.Read(source(t, much, x.text()), api.ICO)
			want.Height = x.height / 2
			want.From = ahead + 22
			if h != want || h.Width != x.m.Width || h.Height != x.m.Height || h.Depth != x.depth {
				t.Errorf("%q: %+v, not %+v", x.icon(), h, want)
			}
			if w.From() != ahead+22 || w.At() != w.From()+40 || w.To() != ahead+len(x.icon()) || w.Ledger() != s.Ledger() {
				t.Errorf("%q: from %d to %d, at %d", x.icon(), w.From(), w.To(), w.At())
			}
			if s.Ledger().Bytes() != 0 || s.Ledger().Peak() != 0 {
				t.Errorf("%q: %d bytes", x.icon(), s.Ledger().Peak())
			}
		}
	}
	for depth, colors := range map[int]int{1: 2, 4: 16, 8: 256, 16: 0, 24: 0, 32: 0} {
		h, w, f := Head(source(t, much, single(2, 0, 0, numbers(40, 256, 512, 1, depth, 0, 0))))
		if f != (api.Fault{}) || w.Left() != 0 || h.Width != 256 || h.Height != 256 || h.Depth != depth || h.Colors != colors || h.Top {
			t.Errorf("%d bits: %+v, %+v", depth, h, f)
		}
	}
}

// P25.1: by each number of steps that aren't enough for it, Head is Spent.
func TestHeadSteps(t *testing.T) {
	x := files()[0]
	for n, at := range []int{0, 6, 22, 22, 26} {
		h, w, f := Head(source(t, api.Budget{MaxWork: n}, x.icon()))
		if h != (dibhead.Head{}) || w != nil || f != bad(api.Spent, at) {
			t.Errorf("%d steps: %+v, %v, %+v", n, h, w, f)
		}
	}
}

// least is the least budget by which a file is decoded, as far as its sides and its bytes tell.
func (x file) least() api.Budget {
	return api.Budget{MaxWidth: x.m.Width, MaxHeight: x.m.Height, MaxBytes: len(x.m.Pix) + 4*x.kept, MaxWork: 99999}
}

// P25.1: sides, and bytes for a raster, that the ledger doesn't let: Spent, behind the head; bytes for a table likewise.
func TestSides(t *testing.T) {
	for _, x := range files() {
		s := source(t, x.least(), x.icon())
		if m, f := decode(t, s); f != (api.Fault{}) || !raster.Same(m, x.m) || s.Ledger().Peak() != x.least().MaxBytes {
			t.Errorf("%q: %v, %+v, %d bytes", x.icon(), m, f, s.Ledger().Peak())
		}
		for _, cut := range []int{len(x.text()), 40} {
			text := single(1, x.width, x.height/2, x.text()[:cut])
			for n := range x.least().MaxBytes {
				g := x.least()
				g.MaxBytes = n
				if _, f := decode(t, source(t, g, text)); f != bad(api.Spent, 22+40) {
					t.Errorf("%q by %d bytes: %+v", text, n, f)
				}
			}
			for _, by := range []int{1, x.m.Width + 1} {
				g := x.least()
				g.MaxWidth -= by
				if _, f := decode(t, source(t, g, text)); f != bad(api.Spent, 22+40) {
					t.Errorf("%q by %+v: %+v", text, g, f)
				}
			}
			g := x.least()
			g.MaxHeight--
			if _, f := decode(t, source(t, g, text)); f != bad(api.Spent, 22+40) {
				t.Errorf("%q by %+v: %+v", text, g, f)
			}
		}
	}
}

// P25.1: by each number of steps that aren't enough: Spent, further on by more steps; by enough of them the image.
func TestSteps(t *testing.T) {
	for _, x := range files() {
		s := source(t, much, x.icon())
		decode(t, s)
		steps, last := s.Ledger().Steps(), 0
		for n := range steps + 3 {
			g := much
			g.MaxWork = n
			s := source(t, g, x.icon())
			m, f := decode(t, s)
			switch {
			case n >= steps:
				if f != (api.Fault{}) || !raster.Same(m, x.m) {
					t.Errorf("%q by %d steps: %v, %+v", x.icon(), n, m, f)
				}
			case f != bad(api.Spent, f.At) || f.At < last || f.At > len(x.icon()) || s.Ledger().Steps() != n:
				t.Errorf("%q by %d steps: %+v behind %d", x.icon(), n, f, last)
			}
			last = f.At
		}
	}
}

// P25.1: where the steps are spent: a reading at its place, a pixel behind its bytes.
func TestSpentAt(t *testing.T) {
	for _, x := range []struct {
		bitmap
		at []int // from the window's first byte on, of steps behind the head and what stands between it and the rows
	}{
		{bitmap{width: 1, height: 2, depth: 24, pixels: "rgb!", mask: "\x80\x00\x00\x00"}, []int{40, 43, 43, 44, 45, 45}},
		{bitmap{width: 2, height: 2, depth: 24, pixels: "rgbrgb!!", mask: "\x40\x00\x00\x00"}, []int{40, 43, 43, 46, 46, 48, 49, 49}},
		{bitmap{width: 1, height: 2, depth: 32, pixels: "rgba", mask: "\x80\x00\x00\x00"}, []int{40, 44, 44, 44, 45, 45}},
		{bitmap{width: 1, height: 2, depth: 32, pixels: "rgb\x00", mask: "\x00\x00\x00\x00"}, []int{40, 44, 44, 44, 44, 45}},
	} {
		x.size = 40
		for n, at := range x.at {
			g := much
			g.MaxWork = 6 + n
			if _, f := decode(t, source(t, g, x.icon())); f != bad(api.Spent, 22+at) {
				t.Errorf("%q by %d steps: %+v, not %d", x.icon(), g.MaxWork, f, 22+at)
			}
		}
	}
}

// P25.1: faults of the rows.
func TestPixels(t *testing.T) {
	l := files()
	fails := func(i int, pixels string, kind, at int) {
		t.Helper()
		x := l[i]
		x.pixels = pixels
		expect(t, x.icon(), api.Image{}, bad(kind, 22+40+len(x.table)+at))
	}
	fails(4, "\x80\x00\x00\x00", api.Malformed, 0)
	fails(5, "\x31\x0f\xff\xff", api.Malformed, 0)
	fails(5, "\x23\x0f\xff\xff", api.Malformed, 0)
	fails(5, "\x21\x3f\xff\xff", api.Malformed, 1)
	fails(6, "\x00\xff\xff\xff\x02\xff\xff\xff", api.Malformed, 4)
	fails(6, "\xff\xff\xff\xff\x02\xff\xff\xff", api.Malformed, 0)
	// What is wrong with a row comes ahead of a mask that isn't there.
	x := l[6]
	x.pixels, x.mask = "\x00\xff\xff\xff\x02\xff\xff\xff", ""
	expect(t, x.icon(), api.Image{}, bad(api.Malformed, 22+40+8+4))
}

// P25.1: of 32 bits the fourth byte is alpha, but if it is 0 of all pixels; the mask counts behind that.
func TestAlpha(t *testing.T) {
	for mask := range 16 {
		for alphas := range 81 {
			var a [4]byte
			zero := true
			for i, k := 0, alphas; i < 4; i, k = i+1, k/3 {
				a[i] = []byte{0, 1, 255}[k%3]
				zero = zero && a[i] == 0
			}
			x := bitmap{size: 40, width: 2, height: 4, depth: 32}
			x.mask = string([]byte{byte(mask&3<<6 | 0x3f), 255, 255, 255, byte(mask >> 2 << 6), 0, 0, 0})
			m := image(2, 2, repeat(black, 4)...)
			for i, v := range a {
				x.pixels += string([]byte{byte(i), 5, 6, v})
				if zero {
					v = 255
				}
				// Of each row's two bits the higher one is the left pixel's; the last row comes first.
				if mask>>(2*(i/2)+1-i%2)&1 == 1 {
					v = 0
				}
				k := i ^ 2
				copy(m.Pix[4*k:], []byte{6, 5, byte(i), v})
			}
			expect(t, x.icon(), m, api.Fault{})
		}
	}
}

// P25.1: the mask alone tells what is clear of up to 24 bits: bytes that aren't looked at don't.
func TestMask(t *testing.T) {
	next := random(7)
	for _, depth := range []int{1, 4, 8, 16, 24, 32} {
		for width := 1; width <= 70; width++ {
			x := bitmap{size: 40, width: width, height: 6, depth: depth}
			x.table = strings.Repeat("\x00", 4*map[int]int{1: 2, 4: 16, 8: 256}[depth])
			x.pixels = strings.Repeat("\x00", 3*((width*depth+31)/32*4))
			stride := (width + 31) / 32 * 4
			b := make([]byte, 3*stride)
			for i := range b {
				b[i] = byte(next(256))
			}
			x.mask = string(b)
			m := image(width, 3, repeat(black, 3*width)...)
			for y := range 3 {
				for k := range width {
					if b[(2-y)*stride+k/8]>>(7-k%8)&1 == 1 {
						m.Pix[4*(y*width+k)+3] = 0
					}
				}
			}
			expect(t, x.icon(), m, api.Fault{})
		}
	}
}

// P25.1: a raster is open, and another one has bytes of its own.
func TestOpen(t *testing.T) {
	x := files()[6]
	s := source(t, much, x.icon())
	one, f := Decode(s)
	s.Seek(0)
	two, g := Decode(s)
	if f != (api.Fault{}) || g != f || s.Ledger().Bytes() != 2*len(x.m.Pix) {
		t.Fatalf("%+v, %+v, %d bytes", f, g, s.Ledger().Bytes())
	}
	one.Set(0, 0, white)
	if m, ok := two.Image(); !ok || !raster.Same(m, x.m) {
		t.Errorf("%v", m)
	}
	if !one.Free() || s.Ledger().Bytes() != len(x.m.Pix) {
		t.Errorf("%d bytes", s.Ledger().Bytes())
	}
}

// meant is the image of a text's file, or what is wrong, by the chapter's words, where nothing is spent.
func meant(t *testing.T, text string) (api.Image, api.Fault) {
	t.Helper()
	s := source(t, much, text)
	d, f := icodir.Read(s)
	if f != (api.Fault{}) {
		return api.Image{}, f
	}
	from, to := d.Entry.Place, d.Entry.Place+d.Entry.Size
	if strings.HasPrefix(text[from:to], signPNG) {
		return api.Image{}, bad(api.Unsupported, from)
	}
	w, _ := s.Window(from, d.Entry.Size)
	h, f := dibhead.Read(w, api.ICO)
	switch {
	case f != (api.Fault{}):
		return api.Image{}, f
	case h.Size != 40:
		return api.Image{}, bad(api.Unsupported, from)
	case h.Method != 0:
		return api.Image{}, bad(api.Unsupported, from+16)
	case h.Top:
		return api.Image{}, bad(api.Malformed, from+8)
	case h.Width != d.Entry.Width:
		return api.Image{}, bad(api.Malformed, from+4)
	case h.Height%2 != 0, h.Height/2 != d.Entry.Height:
		return api.Image{}, bad(api.Malformed, from+8)
	}
	table := from + 40
	rows := table + 4*h.Colors
	if rows > to {
		return api.Image{}, bad(api.Truncated, to)
	}
	m, f := rowsMeant(text[:to], table, rows, h)
	if f != (api.Fault{}) {
		return api.Image{}, f
	}
	mask := rows + h.Height/2*((h.Width*h.Depth+31)/32*4)
	stride := (h.Width + 31) / 32 * 4
	if mask+h.Height/2*stride > to {
		return api.Image{}, bad(api.Truncated, to)
	}
	for y := range m.Height {
		for x := range m.Width {
			if text[mask+(m.Height-1-y)*stride+x/8]>>(7-x%8)&1 == 1 {
				m.Pix[4*(y*m.Width+x)+3] = 0
			}
		}
	}
	return m, api.Fault{}
}

// rowsMeant is the image of the rows of a text, which ends with their window, or what is wrong.
func rowsMeant(text string, table, rows int, h dibhead.Head) (api.Image, api.Fault) {
	m := api.Image{Width: h.Width, Height: h.Height / 2, Pix: make([]byte, 2*h.Width*h.Height)}
	stride := (h.Width*h.Depth + 31) / 32 * 4
	clear := true
	five := func(v int) byte { return byte((2*(v&31)*255 + 31) / 62) }
	for i := range m.Height {
		row := rows + i*stride
		for x := range h.Width {
			at := row + x*h.Depth/8
			last := row + ((x+1)*h.Depth-1)/8
			if last >= len(text) {
				return api.Image{}, bad(api.Truncated, len(text))
			}
			p := m.Pix[4*((m.Height-1-i)*m.Width+x):][:4]
			switch b := text[at:]; h.Depth {
			case 16:
				v := int(b[0]) + 256*int(b[1])
				copy(p, []byte{five(v >> 10), five(v >> 5), five(v), 255})
			case 24:
				copy(p, []byte{b[2], b[1], b[0], 255})
			case 32:
				copy(p, []byte{b[2], b[1], b[0], b[3]})
				clear = clear && b[3] == 0
			default:
				v := int(b[0]) >> (8 - h.Depth - x*h.Depth%8) & (1<<h.Depth - 1)
				if v >= h.Colors {
					return api.Image{}, bad(api.Malformed, at)
				}
				e := text[table+4*v:]
				copy(p, []byte{e[2], e[1], e[0], 255})
			}
		}
		if row+stride > len(text) {
			return api.Image{}, bad(api.Truncated, len(text))
		}
	}
	for i := 3; h.Depth == 32 && clear && i < len(m.Pix); i += 4 {
		m.Pix[i] = 255
	}
	return m, api.Fault{}
}

// need is what a file needs at most, of any sides that the entry's may be.
func need(text string, m api.Image, kept int) api.Budget {
	n := 4 * m.Width * m.Height
	return api.Budget{MaxWidth: m.Width, MaxHeight: m.Height, MaxBytes: n + 4*kept, MaxWork: 8*(len(text)+n) + 1024}
}

// changed is a file's bytes with some others among them, perhaps with its window, or itself, cut off.
func changed(next func(n int) int, text string) string {
	b := []byte(text)
	for range next(4) {
		at := next(len(b))
		if next(2) == 0 {
			at = next(min(62, len(b)))
		}
		b[at] = []byte{0, 1, 2, 3, 4, 8, 16, 24, 32, 40, 22, 255, byte(next(256))}[next(13)]
	}
	switch next(8) {
	case 0:
		return string(b[:next(len(b)+1)])
	case 1:
		binary.LittleEndian.PutUint32(b[14:], uint32(next(len(b)-20)))
	case 2:
		copy(b[22:], signPNG[:1+next(8)])
	}
	return string(b)
}

// P25.1: files of which bytes are others, by any budget: the image, or what is wrong, by the chapter's words; or Spent.
func TestChanged(t *testing.T) {
	next := random(25)
	l := files()
	for range 60000 {
		text := changed(next, l[next(len(l))].icon())
		want, h := meant(t, text)
		expect(t, text, want, h)
		if h.Kind == api.NoFault {
			s := source(t, need(text, want, 256), text)
			if m, f := decode(t, s); f != h || !raster.Same(m, want) {
				t.Fatalf("%q by its need: %v, %+v", text, m, f)
			}
		}
		g := api.Budget{MaxWidth: next(40), MaxHeight: next(9), MaxBytes: next(200), MaxWork: next(90)}
		s := source(t, g, text)
		m, f := decode(t, s)
		if f.Kind == api.Spent {
			if f.Format != api.ICO || f.At < 0 || f.At > len(text) || !s.Ledger().Broken() {
				t.Fatalf("%q by %+v: %+v", text, g, f)
			}
		} else if f != h || !raster.Same(m, want) {
			t.Fatalf("%q by %+v: %v, %+v, not %v, %+v", text, g, m, f, want, h)
		}
		if t.Failed() {
			t.FailNow()
		}
	}
}

// P25.1: any bitmaps that may be, of any depth and sides, right behind the directory.
func TestAny(t *testing.T) {
	next := random(3)
	for range 3000 {
		depth := []int{1, 4, 8, 16, 24, 32}[next(6)]
		x := bitmap{size: 40, width: 1 + next(40), height: 2 + 2*next(9), depth: depth}
		n, ok := map[int]int{1: 2, 4: 16, 8: 256}[depth]
		if next(2) == 0 {
			if !ok {
				n = 9
			}
			x.colors = 1 + next(n)
			n = x.colors
		}
		b := make([]byte, 4*n+x.height/2*((x.width*depth+31)/32*4+(x.width+31)/32*4))
		for i := range b {
			b[i] = byte(next(256))
			if next(3) == 0 {
				b[i] = 0
			}
		}
		x.table = string(b)
		want, f := meant(t, x.icon())
		expect(t, x.icon(), want, f)
		if f.Kind != api.NoFault && (f.Kind != api.Malformed || depth > 8 || f.At < 22+40+4*n) {
			t.Errorf("%+v: %+v", x, f)
		}
	}
}

// P25.1: the greatest sides, by no more than their need.
func TestGreat(t *testing.T) {
	for _, depth := range []int{1, 4, 8, 16, 24, 32} {
		for _, sides := range [][2]int{{256, 256}, {256, 1}, {1, 256}} {
			x := bitmap{size: 40, width: sides[0], height: 2 * sides[1], depth: depth}
			n := map[int]int{1: 2, 4: 16, 8: 256}[depth]
			x.table = strings.Repeat("abcd", n)
			x.pixels = strings.Repeat("\x00", sides[1]*((sides[0]*depth+31)/32*4))
			x.mask = strings.Repeat("\xff", sides[1]*((sides[0]+31)/32*4))
			want, _ := meant(t, x.icon())
			s := source(t, need(x.icon(), want, n), x.icon())
			if m, f := decode(t, s); f != (api.Fault{}) || !raster.Same(m, want) || m.Width != sides[0] || m.Height != sides[1] {
				t.Errorf("%d bits, %v: %+v", depth, sides, f)
			}
		}
	}
}
