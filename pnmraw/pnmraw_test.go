package pnmraw

import (
	"math"
	"math/rand"
	"strconv"
	"strings"
	"testing"

	"tintype/api"
	"tintype/ledger"
	"tintype/pnmhead"
	"tintype/raster"
	"tintype/src"
)

// noKinds are numbers that no kind of bytes has.
var noKinds = []int{math.MinInt, -1 << 32, -256, -4, -1, 0, 1, 2, 3, 7, 8, '4', '5', '6', 255, 260, 1<<32 + 4, 1<<32 + 5, math.MaxInt}

// free is a ledger that lets everything.
func free() *ledger.Ledger { return working(math.MaxInt) }

// working is a ledger that lets so many steps.
func working(steps int) *ledger.Ledger {
	return ledger.New(api.Budget{MaxWidth: math.MaxInt, MaxHeight: math.MaxInt, MaxBytes: math.MaxInt, MaxWork: steps})
}

func source(t *testing.T, l *ledger.Ledger, text string) *src.Src {
	t.Helper()
	s, e := src.New(l, text)
	if e != api.OK {
		t.Fatalf("no source: %d", e)
	}
	return s
}

func canvas(t *testing.T, l *ledger.Ledger, h pnmhead.Head) *raster.Raster {
	t.Helper()
	r, e := raster.New(l, h.Width, h.Height)
	if e != api.OK {
		t.Fatalf("no raster of %+v: %d", h, e)
	}
	return r
}

func fault(kind, at int) api.Fault {
	return api.Fault{Kind: kind, Format: api.PNM, At: at}
}

func grey(v uint8) api.Color { return api.Color{R: v, G: v, B: v, A: 255} }

var (
	black = grey(0)
	white = grey(255)
)

// nearest is a sample as eight bits: the nearest of all numbers, of two as near the greater one.
func nearest(v, most int) uint8 {
	best, least := 0, math.MaxInt
	for k := range 256 {
		far := k*most - v*255
		if far < 0 {
			far = -far
		}
		if far <= least {
			best, least = k, far
		}
	}
	return uint8(best)
}

// expect holds all pixels of a raster against those that it should have.
func expect(t *testing.T, name string, r *raster.Raster, want []api.Color) {
	t.Helper()
	for i, c := range want {
		if got, ok := r.Get(i%r.Width(), i/r.Width()); got != c || !ok {
			t.Fatalf("%s: pixel %d is %v, %t, not %v", name, i, got, ok, c)
		}
	}
}

// read reads all of a text, with steps enough.
func read(t *testing.T, text string, h pnmhead.Head) (*raster.Raster, int, api.Fault) {
	t.Helper()
	s := source(t, free(), text)
	r := canvas(t, free(), h)
	f := Read(s, h, r)
	return r, s.At(), f
}

// picture is an image of such colours.
func picture(width, height int, l ...api.Color) api.Image {
	m := api.Image{Width: width, Height: height}
	for _, c := range l {
		m.Pix = append(m.Pix, c.R, c.G, c.B, c.A)
	}
	return m
}

// P14.1: the chapter's example, read and written.
func TestExample(t *testing.T) {
	want := []api.Color{black, white, white, white, white, white, white, white, black}
	const text = "P4\n9 1\n\x80\x80"
	s := source(t, free(), text)
	h, f := pnmhead.Read(s)
	r := canvas(t, free(), h)
	if g := Read(s, h, r); f != (api.Fault{}) || g != f || s.Left() != 0 {
		t.Fatal(f, g, s.Left())
	}
	expect(t, "example", r, want)
	if got, e := Write(picture(9, 1, want...), 4); got != text || e != api.OK {
		t.Errorf("%q, %d", got, e)
	}
}

// P14.1: pixels of all kinds; what stands behind the last one isn't read.
func TestRead(t *testing.T) {
	for _, x := range []struct {
		text   string
		h      pnmhead.Head
		behind int
		want   []api.Color
	}{
		{"\x80", pnmhead.Head{Kind: 4, Width: 1, Height: 1, Most: 1}, 1, []api.Color{black}},
		{"\x7f\xff", pnmhead.Head{Kind: 4, Width: 1, Height: 1, Most: 1}, 1, []api.Color{white}},
		{"\xbf\x1f\x40", pnmhead.Head{Kind: 4, Width: 2, Height: 2, Most: 1}, 2, []api.Color{black, white, white, white}},
		{"\x8d#", pnmhead.Head{Kind: 4, Width: 8, Height: 1, Most: 1}, 1, []api.Color{black, white, white, white, black, black, white, black}},
		{"\x01\xc0\x80\x3f", pnmhead.Head{Kind: 4, Width: 10, Height: 2, Most: 1}, 4, []api.Color{white, white, white, white, white, white, white, black, black, black, black, white, white, white, white, white, white, white, white, white}},
		{"\x00\x01\x7f\xff12", pnmhead.Head{Kind: 5, Width: 2, Height: 2, Most: 255}, 4, []api.Color{grey(0), grey(1), grey(127), grey(255)}},
		{"\x00\x01", pnmhead.Head{Kind: 5, Width: 2, Height: 1, Most: 1}, 2, []api.Color{grey(0), grey(255)}},
		{"\x01\x02", pnmhead.Head{Kind: 5, Width: 1, Height: 2, Most: 2}, 2, []api.Color{grey(128), grey(255)}},
		{"\x01\x00\x00\x01\x00\x80", pnmhead.Head{Kind: 5, Width: 3, Height: 1, Most: 256}, 6, []api.Color{grey(255), grey(1), grey(128)}},
		{"\xff\xff\x80\x00\x00\x00\x01\x00\x00", pnmhead.Head{Kind: 5, Width: 1, Height: 4, Most: 65535}, 8, []api.Color{grey(255), grey(128), grey(0), grey(1)}},
		{"\x01\x02\x03", pnmhead.Head{Kind: 6, Width: 1, Height: 1, Most: 255}, 3, []api.Color{{R: 1, G: 2, B: 3, A: 255}}},
		{"\x01\x02\x03\x04\x05\x06\x07", pnmhead.Head{Kind: 6, Width: 1, Height: 2, Most: 255}, 6, []api.Color{{R: 1, G: 2, B: 3, A: 255}, {R: 4, G: 5, B: 6, A: 255}}},
		{"\x00\x01\x02\x02\x01\x00", pnmhead.Head{Kind: 6, Width: 2, Height: 1, Most: 2}, 6, []api.Color{{G: 128, B: 255, A: 255}, {R: 255, G: 128, A: 255}}},
		{"\x00\x00\x01\xf4\x03\xe8", pnmhead.Head{Kind: 6, Width: 1, Height: 1, Most: 1000}, 6, []api.Color{{G: 128, B: 255, A: 255}}},
	} {
		r, at, f := read(t, x.text, x.h)
		if f != (api.Fault{}) || at != x.behind {
			t.Errorf("%q of %+v: %+v at %d, not at %d", x.text, x.h, f, at, x.behind)
			continue
		}
		expect(t, x.text, r, x.want)
	}
}

// P14.1: all bits of all bytes, in rows of any width; the rest of a row's last byte isn't looked at.
func TestBits(t *testing.T) {
	for width := 1; width <= 25; width++ {
		const height = 40
		h := pnmhead.Head{Kind: 4, Width: width, Height: height, Most: 1}
		bytes := (width + 7) / 8
		var text []byte
		var want []api.Color
		for y := range height {
			row := ""
			for i := range bytes {
				b := byte(y*37 + i*101 + width*59)
				text = append(text, b)
				digits := strconv.FormatInt(int64(b), 2)
				row += strings.Repeat("0", 8-len(digits)) + digits
			}
			for x := range width {
				c := white
				if row[x] == '1' {
					c = black
				}
				want = append(want, c)
			}
		}
		r, at, f := read(t, string(text), h)
		if f != (api.Fault{}) || at != len(text) {
			t.Fatalf("%d wide: %+v at %d", width, f, at)
		}
		expect(t, strconv.Itoa(width)+" wide", r, want)
		for i := range text {
			if i%bytes == bytes-1 && width%8 > 0 {
				text[i] ^= 0xff >> (width % 8)
			}
		}
		r, _, _ = read(t, string(text), h)
		expect(t, strconv.Itoa(width)+" wide, with other rests", r, want)
	}
}

// sample is a sample's bytes.
func sample(v, most int) string {
	if most > 255 {
		return string([]byte{byte(v >> 8), byte(v)})
	}
	return string([]byte{byte(v)})
}

// P14.1: all samples of a greatest one are the nearest eight bits, of one byte up to 255 and two above.
func TestSamples(t *testing.T) {
	for _, most := range []int{1, 2, 3, 4, 5, 7, 9, 15, 31, 99, 127, 254, 255, 256, 257, 510, 511, 1000, 32767, 65534, 65535} {
		h := pnmhead.Head{Kind: 5, Width: min(most+1, 128), Most: most}
		h.Height = (most + h.Width) / h.Width
		var text strings.Builder
		var want []api.Color
		for i := range h.Width * h.Height {
			v := i % (most + 1)
			text.WriteString(sample(v, most))
			want = append(want, grey(nearest(v, most)))
		}
		r, at, f := read(t, text.String(), h)
		if size, _ := pnmhead.Size(h); f != (api.Fault{}) || at != size {
			t.Fatalf("up to %d: %+v at %d", most, f, at)
		}
		expect(t, "up to "+strconv.Itoa(most), r, want)
	}
}

// P14.1: three samples are R, G and B, each scaled for itself.
func TestColors(t *testing.T) {
	for _, most := range []int{11, 300} {
		var text strings.Builder
		var want []api.Color
		few := []int{0, 1, 2, 5, 9, 10, most}
		for _, r := range few {
			for _, g := range few {
				for _, b := range few {
					text.WriteString(sample(r, most) + sample(g, most) + sample(b, most))
					want = append(want, api.Color{R: nearest(r, most), G: nearest(g, most), B: nearest(b, most), A: 255})
				}
			}
		}
		r, _, f := read(t, text.String(), pnmhead.Head{Kind: 6, Width: 49, Height: 7, Most: most})
		if f != (api.Fault{}) {
			t.Fatal(f)
		}
		expect(t, "colours", r, want)
	}
}

// P14.1: what is wrong, sample by sample, and where; the first of several.
func TestWrong(t *testing.T) {
	bits := pnmhead.Head{Kind: 4, Width: 9, Height: 2, Most: 1}
	small := pnmhead.Head{Kind: 5, Width: 2, Height: 1, Most: 9}
	great := pnmhead.Head{Kind: 5, Width: 2, Height: 1, Most: 259}
	colors := pnmhead.Head{Kind: 6, Width: 2, Height: 1, Most: 9}
	wide := pnmhead.Head{Kind: 6, Width: 1, Height: 1, Most: 259}
	for _, x := range []struct {
		text string
		h    pnmhead.Head
		f    api.Fault
	}{
		{"", bits, fault(api.Truncated, 0)},
		{"\xff", bits, fault(api.Truncated, 1)},
		{"\xff\xff", bits, fault(api.Truncated, 2)},
		{"\xff\xff\xff", bits, fault(api.Truncated, 3)},
		{"", small, fault(api.Truncated, 0)},
		{"\x09", small, fault(api.Truncated, 1)},
		{"\x0a", small, fault(api.Malformed, 0)},
		{"\x0a\x0a", small, fault(api.Malformed, 0)},
		{"\x09\x0a", small, fault(api.Malformed, 1)},
		{"\x09\xff", small, fault(api.Malformed, 1)},
		{"", great, fault(api.Truncated, 0)},
		{"\x01", great, fault(api.Truncated, 1)},
		{"\xff", great, fault(api.Truncated, 1)},
		{"\x01\x03", great, fault(api.Truncated, 2)},
		{"\x01\x03\x01", great, fault(api.Truncated, 3)},
		{"\x01\x04", great, fault(api.Malformed, 0)},
		{"\x01\x03\x01\x04", great, fault(api.Malformed, 2)},
		{"\x01\x03\x02\x00", great, fault(api.Malformed, 2)},
		{"\x01\x03\xff\xff", great, fault(api.Malformed, 2)},
		{"", colors, fault(api.Truncated, 0)},
		{"\x01\x02", colors, fault(api.Truncated, 2)},
		{"\x01\x02\x03", colors, fault(api.Truncated, 3)},
		{"\x01\x02\x03\x04\x05", colors, fault(api.Truncated, 5)},
		{"\x0b\x0c\x0d", colors, fault(api.Malformed, 0)},
		{"\x09\x0c", colors, fault(api.Malformed, 1)},
		{"\x09\x09\x0d", colors, fault(api.Malformed, 2)},
		{"\x01\x02\x03\x04\x05\x0a", colors, fault(api.Malformed, 5)},
		{"\x00\x01\x00\x02\x00", wide, fault(api.Truncated, 5)},
		{"\x00\x01\x00\x02", wide, fault(api.Truncated, 4)},
		{"\x00\x01\x01\x04\x00", wide, fault(api.Malformed, 2)},
		{"\x00\x01\x01\x03\x01\x04", wide, fault(api.Malformed, 4)},
	} {
		if _, _, f := read(t, x.text, x.h); f != x.f {
			t.Errorf("%q of %+v: %+v, not %+v", x.text, x.h, f, x.f)
		}
	}
}

// P14.1: all samples above a greatest one are Malformed, at their first byte, and no other is.
func TestAbove(t *testing.T) {
	for _, most := range []int{1, 2, 15, 128, 254, 255, 256, 300, 4095, 65279, 65534, 65535} {
		h := pnmhead.Head{Kind: 5, Width: 2, Height: 1, Most: most}
		size := len(sample(most, most))
		for v := range 1 << (8 * size) {
			if v > 300 && v < most-300 && v%1000 != 0 || v > most+300 && v%500 != 0 {
				continue // those about the bounds, and some of the others, are enough
			}
			r, _, f := read(t, sample(0, most)+sample(v, most), h)
			switch {
			case v > most && f != fault(api.Malformed, size):
				t.Errorf("%d above %d: %+v", v, most, f)
			case v <= most:
				if f != (api.Fault{}) {
					t.Errorf("%d up to %d: %+v", v, most, f)
				}
				expect(t, "a sample", r, []api.Color{black, grey(nearest(v, most))})
			}
		}
	}
}

// P14.1: pixels are read from the source's place on, within what it goes over; places are those of the whole text.
func TestPlace(t *testing.T) {
	h := pnmhead.Head{Kind: 5, Width: 2, Height: 1, Most: 260}
	for _, x := range []struct {
		from, n, at int
		want        []api.Color
		f           api.Fault
	}{
		{0, 9, 3, []api.Color{grey(nearest(3, 260)), grey(nearest(260, 260))}, api.Fault{}},
		{3, 4, 3, []api.Color{grey(nearest(3, 260)), grey(nearest(260, 260))}, api.Fault{}},
		{3, 3, 3, nil, fault(api.Truncated, 6)},
		{3, 2, 3, nil, fault(api.Truncated, 5)},
		{3, 1, 3, nil, fault(api.Truncated, 4)},
		{3, 0, 3, nil, fault(api.Truncated, 3)},
		{0, 9, 5, nil, fault(api.Malformed, 7)},
		{0, 9, 9, nil, fault(api.Truncated, 9)},
	} {
		w, ok := source(t, free(), "\xff\xff\xff\x00\x03\x01\x04\x01\x05").Window(x.from, x.n)
		if !ok || !w.Seek(x.at) {
			t.Fatal(x)
		}
		r := canvas(t, free(), h)
		if f := Read(w, h, r); f != x.f {
			t.Errorf("%+v: %+v", x, f)
			continue
		}
		expect(t, "a window", r, x.want)
	}
}

// P14.1: a refused reading is Spent at the source's place; a pixel whose step is refused is Spent there, too, behind its samples, also where the raster's ledger is another one.
func TestSpent(t *testing.T) {
	for _, x := range []struct {
		text   string
		h      pnmhead.Head
		places []int
		want   []api.Color
	}{
		{"\x80\xff\x80\x00", pnmhead.Head{Kind: 4, Width: 9, Height: 2, Most: 1}, []int{1, 1, 1, 1, 1, 1, 1, 1, 2, 3, 3, 3, 3, 3, 3, 3, 3, 4}, []api.Color{black, white, white, white, white, white, white, white, black, black, white, white, white, white, white, white, white, white}},
		{"\x01\x02\x03\x04", pnmhead.Head{Kind: 5, Width: 2, Height: 2, Most: 255}, []int{1, 2, 3, 4}, []api.Color{grey(1), grey(2), grey(3), grey(4)}},
		{"\x01\x00\x00\x80", pnmhead.Head{Kind: 5, Width: 2, Height: 1, Most: 256}, []int{2, 4}, []api.Color{grey(255), grey(128)}},
		{"\x01\x02\x03\x04\x05\x06", pnmhead.Head{Kind: 6, Width: 1, Height: 2, Most: 255}, []int{3, 6}, []api.Color{{R: 1, G: 2, B: 3, A: 255}, {R: 4, G: 5, B: 6, A: 255}}},
		{"\x01\x00\x00\x80\x00\x01", pnmhead.Head{Kind: 6, Width: 1, Height: 1, Most: 256}, []int{6}, []api.Color{{R: 255, G: 128, B: 1, A: 255}}},
	} {
		for steps, at := range x.places {
			s := source(t, free(), x.text)
			r := canvas(t, working(steps), x.h)
			if f := Read(s, x.h, r); f != fault(api.Spent, at) || s.At() != at {
				t.Errorf("%q by %d steps: %+v at %d, not at %d", x.text, steps, f, s.At(), at)
			}
			expect(t, x.text, r, x.want[:steps])
		}
		told := false
		for steps := range 40 {
			l := working(steps)
			s := source(t, l, x.text)
			r := canvas(t, l, x.h)
			f := Read(s, x.h, r)
			switch {
			case f.Kind == api.NoFault:
				told = true
				expect(t, x.text, r, x.want)
			case told || f != fault(api.Spent, s.At()) || !l.Broken():
				t.Errorf("%q by %d steps: %+v at %d", x.text, steps, f, s.At())
			}
		}
		if !told {
			t.Errorf("%q isn't told", x.text)
		}
	}
}

// P14.1: without a step left nothing is Truncated or Malformed.
func TestSpentAheadOfWrong(t *testing.T) {
	for _, h := range []pnmhead.Head{{Kind: 4, Width: 1, Height: 1, Most: 1}, {Kind: 5, Width: 1, Height: 1, Most: 9}, {Kind: 6, Width: 1, Height: 1, Most: 300}} {
		for _, text := range []string{"", "\xff", "\xff\xff"} {
			if f := Read(source(t, working(0), text), h, canvas(t, free(), h)); f != fault(api.Spent, 0) {
				t.Errorf("%q of the kind %d: %+v", text, h.Kind, f)
			}
		}
	}
	h := pnmhead.Head{Kind: 6, Width: 2, Height: 1, Most: 9}
	for text, f := range map[string]api.Fault{"123": fault(api.Malformed, 0), "\x01\x02\x03\x04\x05\x0a": fault(api.Malformed, 5), "\x01\x02\x03\x04": fault(api.Truncated, 4), "\x01\x02\x03\x04\x05\x06": fault(api.Spent, 6)} {
		if got := Read(source(t, free(), text), h, canvas(t, working(1), h)); got != f {
			t.Errorf("%q: %+v, not %+v", text, got, f)
		}
	}
}

// P14.1: what is written, byte by byte.
func TestWrite(t *testing.T) {
	for _, x := range []struct {
		m    api.Image
		kind int
		want string
	}{
		{picture(1, 1, black), 4, "P4\n1 1\n\x80"},
		{picture(1, 1, white), 4, "P4\n1 1\n\x00"},
		{picture(3, 2, black, white, white, white, black, black), 4, "P4\n3 2\n\x80\x60"},
		{picture(8, 1, white, black, white, white, white, white, white, black), 4, "P4\n8 1\n\x41"},
		{picture(1, 3, black, white, black), 4, "P4\n1 3\n\x80\x00\x80"},
		{picture(1, 1, black), 5, "P5\n1 1\n255\n\x00"},
		{picture(3, 2, black, white, grey(7), grey(10), grey(99), grey(100)), 5, "P5\n3 2\n255\n\x00\xff\x07\x0a\x63\x64"},
		{picture(1, 1, white), 6, "P6\n1 1\n255\n\xff\xff\xff"},
		{picture(2, 2, api.Color{R: 1, G: 20, B: 255, A: 255}, api.Color{R: 0, G: 9, B: 100, A: 255}, black, grey(8)), 6, "P6\n2 2\n255\n\x01\x14\xff\x00\x09\x64\x00\x00\x00\x08\x08\x08"},
	} {
		had := string(x.m.Pix)
		if text, e := Write(x.m, x.kind); text != x.want || e != api.OK {
			t.Errorf("the kind %d: %q, %d, not %q", x.kind, text, e, x.want)
		}
		if string(x.m.Pix) != had {
			t.Error("the image was changed")
		}
	}
}

// P14.1: what can't be written: the kind ahead of the sides, those ahead of the pixels.
func TestWriteWrong(t *testing.T) {
	half := picture(1, 1, api.Color{A: 254})
	notRight := []api.Image{{}, {Width: 1, Height: 1}, {Width: 1, Height: 1, Pix: make([]byte, 3)}, {Width: 1, Height: 1, Pix: make([]byte, 5)}, {Width: 0, Height: 1}, {Width: -1, Height: -1, Pix: make([]byte, 4)}, {Width: 16385, Height: 1, Pix: make([]byte, 4*16385)}, {Width: 1 << 62, Height: 4}, {Width: math.MaxInt, Height: math.MinInt}}
	for _, kind := range noKinds {
		for _, m := range append(notRight, half, picture(1, 1, black)) {
			if text, e := Write(m, kind); text != "" || e != api.ErrArg {
				t.Errorf("the kind %d: %q, %d", kind, text, e)
			}
		}
	}
	for kind := 4; kind <= 6; kind++ {
		for _, m := range notRight {
			if text, e := Write(m, kind); text != "" || e != api.ErrSize {
				t.Errorf("%d by %d of the kind %d: %q, %d", m.Width, m.Height, kind, text, e)
			}
		}
		for a := range 255 {
			if text, e := Write(picture(2, 1, white, api.Color{A: uint8(a)}), kind); text != "" || e != api.ErrForm {
				t.Errorf("A %d of the kind %d: %q, %d", a, kind, text, e)
			}
		}
	}
}

// P14.1: which colours a kind has; one pixel of another is enough, wherever it is.
func TestWriteForm(t *testing.T) {
	few := []uint8{0, 1, 2, 127, 128, 253, 254, 255}
	for _, r := range few {
		for _, g := range few {
			for _, b := range few {
				c := api.Color{R: r, G: g, B: b, A: 255}
				one := r == g && g == b
				form(t, c, 4, one && (r == 0 || r == 255))
				form(t, c, 5, one)
				form(t, c, 6, true)
			}
		}
	}
	for v := range 256 {
		form(t, grey(uint8(v)), 4, v == 0 || v == 255)
		form(t, grey(uint8(v)), 5, true)
	}
}

func form(t *testing.T, c api.Color, kind int, fits bool) {
	t.Helper()
	for i := range 6 {
		l := []api.Color{black, white, black, black, white, white}
		l[i] = c
		text, e := Write(picture(3, 2, l...), kind)
		if fits != (e == api.OK) || !fits && (text != "" || e != api.ErrForm) {
			t.Errorf("%v of the kind %d: %d", c, kind, e)
		}
	}
}

// random is an image that a kind can have.
func random(n *rand.Rand, kind, width, height int) api.Image {
	m := api.Image{Width: width, Height: height}
	for range width * height {
		v := byte(n.Intn(256))
		switch kind {
		case 4:
			v = byte(n.Intn(2)) * 255
			m.Pix = append(m.Pix, v, v, v, 255)
		case 5:
			m.Pix = append(m.Pix, v, v, v, 255)
		default:
			m.Pix = append(m.Pix, v, byte(n.Intn(256)), byte(n.Intn(256)), 255)
		}
	}
	return m
}

// back holds what is written against what is read of it.
func back(t *testing.T, m api.Image, kind int) {
	t.Helper()
	text, e := Write(m, kind)
	if e != api.OK {
		t.Fatalf("%d by %d of the kind %d: %d", m.Width, m.Height, kind, e)
	}
	s := source(t, free(), text)
	h, f := pnmhead.Read(s)
	if f.Kind != api.NoFault || h.Kind != kind || h.Width != m.Width || h.Height != m.Height {
		t.Fatalf("%q: %+v, %+v", text, h, f)
	}
	r := canvas(t, free(), h)
	if f = Read(s, h, r); f != (api.Fault{}) {
		t.Fatalf("%q: %+v", text, f)
	}
	if s.Left() != 0 {
		t.Errorf("%d bytes are left", s.Left())
	}
	if got, _ := r.Image(); !raster.Same(got, m) {
		t.Errorf("%q: %v, not %v", text, got, m)
	}
}

// P14.2: what is written is read as it was, of all kinds and small sides, and some great ones.
func TestBack(t *testing.T) {
	n := rand.New(rand.NewSource(1))
	for kind := 4; kind <= 6; kind++ {
		for width := 1; width <= 26; width++ {
			for height := 1; height <= 5; height++ {
				back(t, random(n, kind, width, height), kind)
			}
		}
		back(t, random(n, kind, api.MaxSide, 2), kind)
		back(t, random(n, kind, api.MaxSide-1, 3), kind)
		back(t, random(n, kind, 2, api.MaxSide), kind)
	}
	all := api.Image{Width: 256, Height: 1}
	for v := range 256 {
		all.Pix = append(all.Pix, byte(v), byte(v), byte(v), 255)
	}
	back(t, all, 5)
	back(t, all, 6)
}

// steps holds how many a head and its pixels take against how many they may.
func steps(t *testing.T, text string) {
	t.Helper()
	l := free()
	s := source(t, l, text)
	h, f := pnmhead.Read(s)
	if f.Kind != api.NoFault {
		t.Fatalf("%q: %+v", text, f)
	}
	Read(s, h, canvas(t, l, h))
	if most := 4*h.Width*h.Height + 2*len(text) + 20; l.Steps() > most {
		t.Errorf("%.40q: %d steps, more than %d", text, l.Steps(), most)
	}
}

// P14.3: steps of whole files, and of those that are cut off or wrong.
func TestSteps(t *testing.T) {
	long := strings.Repeat("\x00", 200000)
	for _, head := range []string{
		"P4 1 1\n", "P4 8 1\n", "P4 9 1\n", "P4 1 1000\n", "P4 1000 1\n", "P4 333 7\n",
		"P5 1 1 1\n", "P5 1 1 255\n", "P5 1 1 256\n", "P5 100 100 255\n", "P5 100 100 65535\n", "P5 1 9999 300\n",
		"P6 1 1 1\n", "P6 1 1 255\n", "P6 1 1 65535\n", "P6 100 100 255\n", "P6 100 100 65535\n", "P6 10000 1 300\n",
		"P6 # a remark \n\n#another\r 1#\n1# and more #\n\n300\n", "P5\n\t 00000000000000000000001 1\v0000000000007 ", "P41\f1\r",
	} {
		h, _ := pnmhead.Read(source(t, free(), head))
		size, _ := pnmhead.Size(h)
		for _, n := range []int{0, 1, 2, 3, size / 2, size - 1, size, size + 1, 2 * size} {
			steps(t, head+long[:max(n, 0)])
			steps(t, head+strings.Repeat("\xff", max(n, 0)))
		}
	}
}

// P14.1: of a head that none is there is an end, too.
func TestNoHead(t *testing.T) {
	for _, most := range []int{math.MinInt, -1, 0, 1, 65535, 65536, 1 << 32, math.MaxInt} {
		for _, width := range []int{math.MinInt, -1, 0, 3, math.MaxInt} {
			for kind := range 8 {
				h := pnmhead.Head{Kind: kind, Width: width, Height: 2, Most: most}
				Read(source(t, free(), "\x00\x00\x00\x00"), h, canvas(t, free(), pnmhead.Head{Width: 2, Height: 1}))
			}
		}
	}
}
