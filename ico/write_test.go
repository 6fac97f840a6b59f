package ico

import (
	"math"
	"testing"

	"tintype/api"
	"tintype/icodir"
	"tintype/raster"
)

// expectFile holds what is written against the file's bytes.
func expectFile(t *testing.T, m api.Image, o Options, want string) {
	t.Helper()
	if text, e := Write(m, o); text != want || e != api.OK {
		t.Errorf("%+v: %q, %d, not %q", o, text, e, want)
	}
}

// expectNone holds what isn't written against why.
func expectNone(t *testing.T, m api.Image, o Options, want api.Errno) {
	t.Helper()
	if text, e := Write(m, o); text != "" || e != want {
		t.Errorf("%d by %d, %d bytes, %+v: %.60q, %d, not %d", m.Width, m.Height, len(m.Pix), o, text, e, want)
	}
}

// none24 is what stands in a head behind its bits, where all is 0.
const none24 = "\x00\x00\x00\x00\x00\x00\x00\x00\x00\x00\x00\x00\x00\x00\x00\x00\x00\x00\x00\x00\x00\x00\x00\x00"

// P25.1: files by hand, byte by byte.
func TestWriteByHand(t *testing.T) {
	expectFile(t, image(1, 1, color(3, 2, 1, 255)), Options{Depth: 24},
		"\x00\x00\x01\x00\x01\x00"+"\x01\x01\x00\x00\x01\x00\x18\x00\x30\x00\x00\x00\x16\x00\x00\x00"+
			"\x28\x00\x00\x00\x01\x00\x00\x00\x02\x00\x00\x00\x01\x00\x18\x00"+none24+
			"\x01\x02\x03\x00"+"\x00\x00\x00\x00")
	expectFile(t, image(1, 2, color(6, 5, 4, 0), color(3, 2, 1, 255)), Options{Depth: 24, Cursor: true, A: 0x0102, B: 0xfffe},
		"\x00\x00\x02\x00\x01\x00"+"\x01\x02\x00\x00\x02\x01\xfe\xff\x38\x00\x00\x00\x16\x00\x00\x00"+
			"\x28\x00\x00\x00\x01\x00\x00\x00\x04\x00\x00\x00\x01\x00\x18\x00"+none24+
			"\x01\x02\x03\x00\x04\x05\x06\x00"+"\x00\x00\x00\x00\x80\x00\x00\x00")
	expectFile(t, image(2, 1, color(6, 5, 4, 0), color(3, 2, 1, 7)), Options{Depth: 32, A: 5, B: 6},
		"\x00\x00\x01\x00\x01\x00"+"\x02\x01\x00\x00\x01\x00\x20\x00\x34\x00\x00\x00\x16\x00\x00\x00"+
			"\x28\x00\x00\x00\x02\x00\x00\x00\x02\x00\x00\x00\x01\x00\x20\x00"+none24+
			"\x04\x05\x06\x00\x01\x02\x03\x07"+"\x80\x00\x00\x00")
	// Of 1 bit two colours are all that there may be, told as 0; one is told.
	expectFile(t, image(3, 1, red, blue, through(red)), Options{Depth: 1},
		"\x00\x00\x01\x00\x01\x00"+"\x03\x01\x00\x00\x01\x00\x01\x00\x38\x00\x00\x00\x16\x00\x00\x00"+
			"\x28\x00\x00\x00\x03\x00\x00\x00\x02\x00\x00\x00\x01\x00\x01\x00"+none24+
			"\x00\x00\xff\x00\xff\x00\x00\x00"+"\x40\x00\x00\x00"+"\x20\x00\x00\x00")
	expectFile(t, image(1, 1, through(green)), Options{Depth: 1},
		"\x00\x00\x01\x00\x01\x00"+"\x01\x01\x00\x00\x01\x00\x01\x00\x34\x00\x00\x00\x16\x00\x00\x00"+
			"\x28\x00\x00\x00\x01\x00\x00\x00\x02\x00\x00\x00\x01\x00\x01\x00"+none24[:16]+"\x01\x00\x00\x00\x00\x00\x00\x00"+
			"\x00\xff\x00\x00"+"\x00\x00\x00\x00"+"\x80\x00\x00\x00")
	expectFile(t, image(2, 2, red, blue, green, green), Options{Depth: 4},
		"\x00\x00\x01\x00\x01\x00"+"\x02\x02\x00\x00\x01\x00\x04\x00\x44\x00\x00\x00\x16\x00\x00\x00"+
			"\x28\x00\x00\x00\x02\x00\x00\x00\x04\x00\x00\x00\x01\x00\x04\x00"+none24[:16]+"\x03\x00\x00\x00\x00\x00\x00\x00"+
			"\x00\x00\xff\x00\xff\x00\x00\x00\x00\xff\x00\x00"+"\x22\x00\x00\x00\x01\x00\x00\x00"+"\x00\x00\x00\x00\x00\x00\x00\x00")
	expectFile(t, image(1, 1, green), Options{Depth: 8, Cursor: true, B: 65535},
		"\x00\x00\x02\x00\x01\x00"+"\x01\x01\x00\x00\x00\x00\xff\xff\x34\x00\x00\x00\x16\x00\x00\x00"+
			"\x28\x00\x00\x00\x01\x00\x00\x00\x02\x00\x00\x00\x01\x00\x08\x00"+none24[:16]+"\x01\x00\x00\x00\x00\x00\x00\x00"+
			"\x00\xff\x00\x00"+"\x00\x00\x00\x00"+"\x00\x00\x00\x00")
}

// options are some by which files are written, of all depths.
func options() (l []Options) {
	for _, depth := range []int{1, 4, 8, 24, 32} {
		l = append(l, Options{Depth: depth}, Options{Depth: depth, A: 65535, B: 3}, Options{Depth: depth, Cursor: true}, Options{Depth: depth, Cursor: true, A: 258, B: 65535})
	}
	return l
}

// written is a file by the chapter's words.
func written(m api.Image, o Options) string {
	var table []byte
	entries := map[string]int{}
	for i := 0; i < len(m.Pix); i += 4 {
		rgb := string(m.Pix[i : i+3])
		if _, ok := entries[rgb]; !ok && o.Depth <= 8 {
			entries[rgb] = len(entries)
			table = append(table, rgb[2], rgb[1], rgb[0], 0)
		}
	}
	stride, maskStride := (m.Width*o.Depth+31)/32*4, (m.Width+31)/32*4
	rows, mask := make([]byte, m.Height*stride), make([]byte, m.Height*maskStride)
	for y := range m.Height {
		row, maskRow := rows[(m.Height-1-y)*stride:], mask[(m.Height-1-y)*maskStride:]
		for x := range m.Width {
			p := m.Pix[4*(y*m.Width+x):][:4]
			switch o.Depth {
			case 32:
				copy(row[4*x:], []byte{p[2], p[1], p[0], p[3]})
			case 24:
				copy(row[3*x:], []byte{p[2], p[1], p[0]})
			default:
				per := 8 / o.Depth
				row[x/per] |= byte(entries[string(p[:3])] << (8 - o.Depth*(x%per+1)))
			}
			if p[3] == 0 {
				maskRow[x/8] |= 0x80 >> (x % 8)
			}
		}
	}
	told := len(entries)
	if told == 1<<o.Depth {
		told = 0
	}
	window := le32(40, m.Width, 2*m.Height) + le16(1, o.Depth) + le32(0, 0, 0, 0, told, 0) + string(table) + string(rows) + string(mask)
	kind, a, b := 1, 1, o.Depth
	if o.Cursor {
		kind, a, b = 2, o.A, o.B
	}
	return le16(0, kind, 1) + string([]byte{byte(m.Width), byte(m.Height), 0, 0}) + le16(a, b) + le32(len(window), 22) + window
}

// some is an image that a file can be written of: of up to 8 bits it has no more colours than that, or all of them, each perhaps clear.
func some(next func(n int) int, width, height int, o Options) api.Image {
	var l []api.Color
	most := min(1<<o.Depth, 256)
	for len(l) < most {
		l = append(l, color(uint8(len(l)), uint8(next(256)), uint8(next(256)), 255))
	}
	l = l[:1+next(most)]
	kind := next(4) // what alphas there are: any, all solid, all clear, both
	m := api.Image{Width: width, Height: height}
	for len(m.Pix) < 4*width*height {
		c := l[next(len(l))]
		if o.Depth > 8 {
			c = color(uint8(next(256)), uint8(next(256)), uint8(next(256)), 255)
		}
		switch {
		case kind == 0 && o.Depth == 32:
			c.A = uint8(next(256))
		case kind == 2, kind != 1 && next(2) == 0:
			c.A = 0
		}
		for range 1 + next(3)*next(9) {
			if len(m.Pix) < 4*width*height {
				m.Pix = append(m.Pix, c.R, c.G, c.B, c.A)
			}
		}
	}
	return m
}

// back holds what a file that is written is decoded as against what it was written of.
func back(t *testing.T, m api.Image, o Options) {
	t.Helper()
	text, e := Write(m, o)
	if e != api.OK {
		t.Fatalf("%d by %d, %+v: %d", m.Width, m.Height, o, e)
	}
	got, f := decode(t, source(t, much, text))
	if f != (api.Fault{}) || !raster.Same(got, m) {
		t.Errorf("%d by %d, %+v: %+v, or another image", m.Width, m.Height, o, f)
	}
	d, f := icodir.Read(source(t, much, text))
	if f != (api.Fault{}) || d.Cursor != o.Cursor || d.Count != 1 || d.Entry.Place != 22 || d.Entry.Size != len(text)-22 || !icodir.Is(text) {
		t.Errorf("%+v: %+v, %+v", o, d, f)
	}
	if o.Cursor && (d.Entry.A != o.A || d.Entry.B != o.B) || !o.Cursor && (d.Entry.A != 1 || d.Entry.B != o.Depth) {
		t.Errorf("%+v: %+v", o, d)
	}
}

// P25.1, P25.2: images of any sides and colours, by all options: the file, byte by byte, which is decoded as it was.
func TestWrite(t *testing.T) {
	next := random(5)
	for _, o := range options() {
		for range 200 {
			m := some(next, 1+next(40), 1+next(12), o)
			had := raster.Clone(m)
			expectFile(t, m, o, written(m, o))
			if !raster.Same(m, had) {
				t.Errorf("%+v: the image is another one", o)
			}
			back(t, m, o)
		}
	}
}

// P25.1, P25.2: the greatest sides; one more isn't written.
func TestWriteSides(t *testing.T) {
	next := random(6)
	for _, o := range options() {
		for _, sides := range [][2]int{{256, 256}, {255, 1}, {1, 255}, {256, 3}, {3, 256}} {
			m := some(next, sides[0], sides[1], o)
			expectFile(t, m, o, written(m, o))
			back(t, m, o)
		}
		for _, sides := range [][2]int{{257, 1}, {1, 257}, {257, 257}, {512, 2}, {2, 16384}} {
			expectNone(t, some(next, sides[0], sides[1], o), o, api.ErrSize)
		}
	}
}

// P25.1, P25.2: as many colours as there may be, whatever their alphas; one more isn't written.
func TestColors(t *testing.T) {
	for _, depth := range []int{1, 4, 8} {
		o := Options{Depth: depth}
		for n := 1; n <= 1<<depth; n++ {
			m := image(n, 1)
			if n == 256 {
				m = image(16, 16)
			}
			for i := range n {
				m.Pix = append(m.Pix, 7, byte(n-i), byte(i), byte(i%2*255))
			}
			expectFile(t, m, o, written(m, o))
			back(t, m, o)
		}
		n := 1<<depth + 1
		m := api.Image{Width: 1, Height: 2}
		for m.Height = n; m.Height > 256; {
			m.Width, m.Height = 2, (n+1)/2
		}
		for i := range m.Width * m.Height {
			v := min(i, n-1)
			m.Pix = append(m.Pix, byte(v), byte(v>>8), 0, 255)
		}
		expectNone(t, m, o, api.ErrForm)
		for i := range m.Pix {
			if i%4 == 3 {
				m.Pix[i] = 0
			}
		}
		expectNone(t, m, o, api.ErrForm)
		// The last colour is the first one, but for its alpha.
		for i := 4 * (n - 1); i < len(m.Pix); i += 4 {
			copy(m.Pix[i:], []byte{0, 0, 0, 255})
		}
		expectFile(t, m, o, written(m, o))
		back(t, m, o)
	}
}

// P25.1: options by which there are no files, ahead of all else that is wrong.
func TestWriteArg(t *testing.T) {
	depths := map[int]bool{1: true, 4: true, 8: true, 24: true, 32: true}
	images := []api.Image{image(1, 1, black), image(1, 1, color(0, 0, 0, 9)), {}, {Width: -1, Height: 1}, {Width: 257, Height: 1, Pix: make([]byte, 4*257)}}
	points := []int{math.MinInt, -1, 0, 1, 65535, 65536, 1 << 32, math.MaxInt}
	for _, depth := range []int{math.MinInt, -32, -1, 0, 1, 2, 3, 4, 5, 7, 8, 9, 15, 16, 17, 23, 24, 25, 31, 32, 33, 64, 1<<32 + 8, math.MaxInt} {
		for _, a := range points {
			for _, b := range points {
				for _, cursor := range []bool{false, true} {
					o := Options{Depth: depth, Cursor: cursor, A: a, B: b}
					right := depths[depth] && a >= 0 && a <= 65535 && b >= 0 && b <= 65535
					for i, m := range images {
						switch {
						case !right:
							expectNone(t, m, o, api.ErrArg)
						case i > 1:
							expectNone(t, m, o, api.ErrSize)
						case i == 1 && depth != 32:
							expectNone(t, m, o, api.ErrForm)
						default:
							back(t, m, o)
						}
					}
				}
			}
		}
	}
}

// P25.1: images that aren't right, whatever their pixels are.
func TestWriteSize(t *testing.T) {
	for _, m := range []api.Image{
		{Width: 1, Height: 1, Pix: make([]byte, 3)},
		{Width: 1, Height: 1, Pix: []byte{1, 2, 3, 4, 5}},
		{Width: 0, Height: 1},
		{Width: 1, Height: 0},
		{Width: -1, Height: -1, Pix: make([]byte, 4)},
		{Width: 256, Height: 256},
		{Width: math.MaxInt, Height: math.MaxInt},
		{Width: 1 << 62, Height: 4},
	} {
		for _, o := range options() {
			expectNone(t, m, o, api.ErrSize)
		}
	}
}

// P25.1: a pixel that is neither solid nor clear, wherever it stands.
func TestWriteForm(t *testing.T) {
	for _, o := range options() {
		for at := range 6 {
			for a := range 256 {
				m := image(3, 2, repeat(black, 6)...)
				m.Pix[4*at+3] = byte(a)
				if o.Depth == 32 || a == 0 || a == 255 {
					expectFile(t, m, o, written(m, o))
					back(t, m, o)
				} else {
					expectNone(t, m, o, api.ErrForm)
				}
			}
		}
	}
}

// P25.2: of 32 bits all pixels clear, which alone would be all solid.
func TestAllClear(t *testing.T) {
	for n := 1; n <= 40; n++ {
		back(t, image(n, 1, repeat(color(1, 2, 3, 0), n)...), Options{Depth: 32})
		back(t, image(1, n, repeat(color(1, 2, 3, 0), n)...), Options{Depth: 32})
		m := image(n, 1, repeat(color(1, 2, 3, 0), n)...)
		m.Pix[len(m.Pix)-1] = 1
		back(t, m, Options{Depth: 32})
	}
}
