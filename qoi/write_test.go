package qoi

import (
	"math"
	"strings"
	"testing"

	"tintype/api"
	"tintype/raster"
)

// modelWrite is a file of an image that is right, by the chapter's words.
func modelWrite(m api.Image) string {
	text := head(m.Width, m.Height)
	var l []pixel
	for i := 0; i < len(m.Pix); i += 4 {
		l = append(l, pixel{int(m.Pix[i]), int(m.Pix[i+1]), int(m.Pix[i+2]), int(m.Pix[i+3])})
	}
	last, seen := pixel{0, 0, 0, 255}, map[int]pixel{}
	for len(l) > 0 {
		p := l[0]
		n := 0
		for n < 62 && n < len(l) && l[n] == last {
			n++
		}
		var step []int
		if n > 0 {
			step = []int{0xc0 + n - 1}
		} else {
			step, n = modelOne(p, last, seen), 1
		}
		for _, b := range step {
			text += string([]byte{byte(b)})
		}
		last, seen[modelPlace(p)] = p, p
		l = l[n:]
	}
	return text + tail
}

// modelOne is the step of a pixel that isn't the last one.
func modelOne(p, last pixel, seen map[int]pixel) []int {
	at := modelPlace(p)
	if seen[at] == p {
		return []int{at}
	}
	if p[3] == last[3] {
		difference := func(a, b int) int { return (a-b+512+128)%256 - 128 }
		r, g, b := difference(p[0], last[0]), difference(p[1], last[1]), difference(p[2], last[2])
		if min(r, g, b) >= -2 && max(r, g, b) <= 1 {
			return []int{64 + (r+2)*16 + (g+2)*4 + b + 2}
		}
		rg, bg := difference(r, g), difference(b, g)
		if g >= -32 && g <= 31 && min(rg, bg) >= -8 && max(rg, bg) <= 7 {
			return []int{128 + g + 32, (rg+8)*16 + bg + 8}
		}
		return []int{0xfe, p[0], p[1], p[2]}
	}
	return []int{0xff, p[0], p[1], p[2], p[3]}
}

// written holds the file of an image against the model, and against the image that it is decoded as; the image isn't changed.
func written(t *testing.T, m api.Image) string {
	t.Helper()
	had := raster.Clone(m)
	text, e := Write(m)
	if e != api.OK || !raster.Same(m, had) {
		t.Fatalf("%d by %d: %d, or the image was changed", m.Width, m.Height, e)
	}
	if want := modelWrite(m); text != want {
		t.Errorf("%v: %x, not %x", m, text[14:], want[14:])
	}
	if !Is(text) {
		t.Errorf("%q is no file", text)
	}
	expect(t, text, m, api.Fault{})
	expect(t, text+"\x01", m, api.Fault{})
	return text
}

// P26.1: files by hand, byte by byte.
func TestWrite(t *testing.T) {
	red := color(255, 0, 0, 255)
	for _, x := range []struct {
		m     api.Image
		steps string
	}{
		{image(1, 1, black), "\xc0"},
		{image(2, 3, repeat(black, 6)...), "\xc5"},
		{image(1, 62, repeat(black, 62)...), "\xfd"},
		{image(63, 1, repeat(black, 63)...), "\xfd\xc0"},
		{image(25, 5, repeat(black, 125)...), "\xfd\xfd\xc0"},
		{image(2, 1, color(1, 1, 1, 255), color(255, 255, 255, 255)), "\x7f\x40"},
		{image(2, 1, color(0, 0, 0, 0), color(0, 0, 0, 0)), "\x00\xc0"},
		{image(2, 1, color(1, 2, 3, 4), color(2, 3, 4, 4)), "\xff\x01\x02\x03\x04\x7f"},
		{image(1, 2, color(0, 1, 0, 255), color(0, 1, 0, 254)), "\x6e\xff\x00\x01\x00\xfe"},
		{image(2, 2, color(2, 2, 2, 255), color(100, 90, 80, 255), color(100, 90, 80, 255), color(2, 2, 2, 255)), "\xa2\x88\xfe\x64\x5a\x50\xc0\xfe\x02\x02\x02"}, // both stand at 19
		{image(2, 2, color(2, 2, 2, 255), color(101, 90, 80, 255), color(101, 90, 80, 255), color(2, 2, 2, 255)), "\xa2\x88\xfe\x65\x5a\x50\xc0\x13"},
		{image(1, 4, red, black, red, black), "\x5a\x7a\x32\x35"},
		{image(4, 1, black, color(9, 99, 199, 255), black, black), "\xc0\xfe\x09\x63\xc7\x35\xc0"},
		{image(3, 1, color(9, 99, 199, 255), black, black), "\xfe\x09\x63\xc7\xfe\x00\x00\x00\xc0"},
	} {
		want := head(x.m.Width, x.m.Height) + x.steps + tail
		if text := written(t, x.m); text != want {
			t.Errorf("%v: %x, not %x", x.m, text[14:], want[14:])
		}
	}
}

// P26.1: an image that isn't right is ErrSize.
func TestWriteSize(t *testing.T) {
	for _, m := range []api.Image{
		{},
		{Width: 1, Height: 1},
		{Width: 1, Height: 1, Pix: make([]byte, 3)},
		{Width: 1, Height: 1, Pix: make([]byte, 5)},
		{Width: 1, Height: 1, Pix: make([]byte, 8)},
		{Width: 2, Height: 1, Pix: make([]byte, 4)},
		{Width: 0, Height: 1, Pix: make([]byte, 4)},
		{Width: 1, Height: 0},
		{Width: -1, Height: -1, Pix: make([]byte, 4)},
		{Width: api.MaxSide + 1, Height: 1, Pix: make([]byte, 4*(api.MaxSide+1))},
		{Width: 1, Height: api.MaxSide + 1, Pix: make([]byte, 4*(api.MaxSide+1))},
		{Width: 1 << 32, Height: 1 << 32, Pix: make([]byte, 4)},
		{Width: 1 << 31, Height: 1 << 31},
		{Width: math.MaxInt, Height: math.MaxInt},
		{Width: math.MinInt, Height: math.MinInt},
	} {
		if text, e := Write(m); text != "" || e != api.ErrSize {
			t.Errorf("%d by %d, %d bytes: %.40q, %d", m.Width, m.Height, len(m.Pix), text, e)
		}
	}
}

// P26.1, P26.2: runs of all lengths, also over the ends of rows, with the first pixels' colour and with another one.
func TestWriteRuns(t *testing.T) {
	for n := 1; n <= 200; n++ {
		for _, c := range []api.Color{black, color(0, 0, 0, 0), color(1, 2, 3, 4), color(200, 100, 50, 255)} {
			written(t, image(1, n, repeat(c, n)...))
			written(t, image(n, 1, repeat(c, n)...))
			l := append(repeat(black, n), repeat(c, n)...)
			written(t, image(2, n, l...))
			written(t, image(n, 2, l...))
		}
	}
}

// P26.1, P26.2: differences about the ends of what each step tells, from pixels about 0 and 255.
func TestWriteDifferences(t *testing.T) {
	edges := []uint8{0, 1, 2, 254, 253, 7, 8, 9, 248, 247, 30, 31, 32, 33, 225, 224, 223, 24, 40, 127, 128, 129}
	for _, last := range []api.Color{black, color(255, 255, 255, 255), color(3, 250, 128, 0), color(100, 100, 100, 7)} {
		for _, r := range edges {
			for _, g := range edges {
				for _, b := range edges {
					c := color(last.R+r, last.G+g, last.B+b, last.A)
					m := image(2, 1, last, c)
					text, e := Write(m)
					if want := modelWrite(m); text != want || e != api.OK {
						t.Errorf("%v behind %v: %x, not %x, %d", c, last, text[14:], want[14:], e)
					}
					expect(t, text, m, api.Fault{})
				}
			}
		}
	}
}

// P26.1, P26.2: all differences of G, with all of R that a step could tell with them.
func TestWriteGreen(t *testing.T) {
	for g := range 256 {
		for r := range 256 {
			c := color(uint8(r), uint8(g), uint8(g), 255)
			m := image(1, 2, black, c)
			text, _ := Write(m)
			if want := modelWrite(m); text != want {
				t.Errorf("%v: %x, not %x", c, text[14:], want[14:])
			}
			m = image(1, 2, black, color(uint8(g), uint8(g), uint8(r), 255))
			text, _ = Write(m)
			if want := modelWrite(m); text != want {
				t.Errorf("B %d, G %d: %x, not %x", r, g, text[14:], want[14:])
			}
		}
	}
}

// anyImage is one whose pixels are, at random, those ahead, near them, of few colours, or any.
func anyImage(next func(n int) int, width, height int) api.Image {
	few := []api.Color{black, {}, color(255, 255, 255, 255), color(1, 2, 3, 4)}
	for range 4 {
		few = append(few, color(uint8(next(256)), uint8(next(256)), uint8(next(256)), uint8(next(256))))
	}
	c := black
	var l []api.Color
	for len(l) < width*height {
		n := 1
		switch next(7) {
		case 0:
			n = 1 + next(70)
		case 1:
			c = color(uint8(next(256)), uint8(next(256)), uint8(next(256)), uint8(next(256)))
		case 2:
			c = color(uint8(next(256)), uint8(next(256)), uint8(next(256)), c.A)
		case 3:
			c = color(c.R+uint8(next(5))-2, c.G+uint8(next(5))-2, c.B+uint8(next(5))-2, c.A)
		case 4:
			g := uint8(next(68)) - 34
			c = color(c.R+g+uint8(next(18))-9, c.G+g, c.B+g+uint8(next(18))-9, c.A)
		default:
			c = few[next(len(few))]
		}
		l = append(l, repeat(c, n)...)
	}
	return image(width, height, l[:width*height]...)
}

// P26.1, P26.2: images of any pixels are written as the model, and decoded as they were; cut off they are Truncated.
func TestBack(t *testing.T) {
	next := random(62)
	for range 3000 {
		m := anyImage(next, 1+next(20), 1+next(20))
		text := written(t, m)
		n := next(len(text))
		expect(t, text[:n], api.Image{}, bad(api.Truncated, n))
	}
	for range 20 {
		written(t, anyImage(next, 1+next(300), 1+next(30)))
	}
}

// P26.2: the greatest sides, and the longest steps of all pixels.
func TestGreat(t *testing.T) {
	pix := []byte(strings.Repeat("\x00\x00\x00\xff\x80\x40\xc0\x01", api.MaxSide))
	for i := range pix {
		if i%8 > 3 {
			pix[i] += byte(i / 8 * 37)
		}
	}
	for _, m := range []api.Image{{Width: api.MaxSide, Height: 2, Pix: pix}, {Width: 2, Height: api.MaxSide, Pix: pix}, {Width: api.MaxSide, Height: 1, Pix: make([]byte, 4*api.MaxSide)}} {
		text, e := Write(m)
		if e != api.OK {
			t.Fatal(e)
		}
		expect(t, text, m, api.Fault{})
		if w, h, f := Sides(source(t, much, text)); w != m.Width || h != m.Height || f != (api.Fault{}) {
			t.Errorf("%d by %d, %+v", w, h, f)
		}
	}
}

// P26.1: each file is new: an image that is changed behind it changes none.
func TestWriteNew(t *testing.T) {
	m := image(2, 1, color(9, 8, 7, 6), color(5, 4, 3, 2))
	text, _ := Write(m)
	had := strings.Clone(text)
	clear(m.Pix)
	if again, _ := Write(m); text != had || again == text {
		t.Errorf("%q, %q", text, again)
	}
}
