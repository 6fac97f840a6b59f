package sun

import (
	"math"
	"strings"
	"testing"

	"tintype/api"
	"tintype/raster"
)

// options are all by which files are written.
func options() (l []Options) {
	for _, bits := range []int{1, 8, 24, 32} {
		for kind := range 4 {
			l = append(l, Options{bits, kind})
		}
	}
	return l
}

// unpack is the bytes of packets.
func unpack(t *testing.T, s string) string {
	t.Helper()
	c := &cursor{text: s, end: len(s), most: math.MaxInt, packed: true}
	var b []byte
	for c.at < c.end || len(c.stock) > 0 {
		v, f := c.byte()
		if f.Kind != 0 {
			t.Fatalf("%x: %+v", s, f)
		}
		b = append(b, byte(v))
	}
	return string(b)
}

// modelPack is the packets of bytes by the chapter's words.
func modelPack(text string) (s string) {
	for len(text) > 0 {
		n := 0
		for n < len(text) && n < 256 && text[n] == text[0] {
			n++
		}
		switch {
		case n >= 3, n == 2 && text[0] == 128:
			s += "\x80" + string([]byte{byte(n - 1)}) + text[:1]
		case text[0] == 128:
			s += "\x80\x00"
		default:
			s += text[:n]
		}
		text = text[n:]
	}
	return s
}

// packs holds the packets of bytes against the model, and against the bytes.
func packs(t *testing.T, text string) {
	t.Helper()
	got := Pack(text)
	if want := modelPack(text); got != want {
		t.Errorf("%x: %x, not %x", text, got, want)
	}
	if back := unpack(t, got); back != text {
		t.Errorf("%x: %x are %x", text, got, back)
	}
}

// P29.1: packets by hand, of all bytes, of stretches of all lengths, and of all short texts.
func TestPack(t *testing.T) {
	for text, want := range map[string]string{
		"":                          "",
		"\x00":                      "\x00",
		"aa":                        "aa",
		"aaa":                       "\x80\x02a",
		"aabbb":                     "aa\x80\x02b",
		"\x80":                      "\x80\x00",
		"\x80\x80":                  "\x80\x01\x80",
		"\x80\x80\x80":              "\x80\x02\x80",
		"\x80a\x80":                 "\x80\x00a\x80\x00",
		"\xff\xff":                  "\xff\xff",
		strings.Repeat("a", 256):    "\x80\xffa",
		strings.Repeat("a", 257):    "\x80\xffaa",
		strings.Repeat("a", 258):    "\x80\xffaaa",
		strings.Repeat("a", 259):    "\x80\xffa\x80\x02a",
		strings.Repeat("\x80", 257): "\x80\xff\x80\x80\x00",
		strings.Repeat("\x80", 258): "\x80\xff\x80\x80\x01\x80",
	} {
		if got := Pack(text); got != want {
			t.Errorf("%x: %x, not %x", text, got, want)
		}
	}
	for v := range 256 {
		for n := range 10 {
			packs(t, strings.Repeat(string([]byte{byte(v)}), n))
		}
	}
	for n := range 800 {
		for _, v := range []string{"\x00", "\x7f", "\x80", "\xff"} {
			packs(t, strings.Repeat(v, n))
			packs(t, "a"+strings.Repeat(v, n)+"\x80")
		}
	}
	for n := range 4096 {
		text := ""
		for k := n; k > 0; k /= 4 {
			text += "\x00\x01\x80\xff"[k%4 : k%4+1]
		}
		packs(t, text)
	}
}

// modelWrite is a file of an image that can be written so, by the chapter's words.
func modelWrite(m api.Image, o Options) string {
	var colors []string
	rows := ""
	for y := range m.Height {
		var row []byte
		for x := range m.Width {
			i := 4 * (y*m.Width + x)
			r, g, b := m.Pix[i], m.Pix[i+1], m.Pix[i+2]
			switch o.Bits {
			case 1:
				if x%8 == 0 {
					row = append(row, 0)
				}
				if r == 0 {
					row[x/8] += 128 >> (x % 8)
				}
			case 8:
				n := 0
				for n < len(colors) && colors[n] != string([]byte{r, g, b}) {
					n++
				}
				if n == len(colors) {
					colors = append(colors, string([]byte{r, g, b}))
				}
				row = append(row, byte(n))
			default:
				if o.Bits == 32 {
					row = append(row, 0)
				}
				if o.Type == 3 {
					row = append(row, r, g, b)
				} else {
					row = append(row, b, g, r)
				}
			}
		}
		if len(row)%2 == 1 {
			row = append(row, 0)
		}
		rows += string(row)
	}
	if o.Type == 2 {
		rows = modelPack(rows)
	}
	var colorMap []byte
	for k := range 3 {
		for _, c := range colors {
			colorMap = append(colorMap, c[k])
		}
	}
	kind := 0
	if o.Bits == 8 {
		kind = 1
	}
	return words(0x59a66a95, m.Width, m.Height, o.Bits, len(rows), o.Type, kind, len(colorMap)) + string(colorMap) + rows
}

// written holds the file of an image against the model, and against the image that it is decoded as; the image isn't changed.
func written(t *testing.T, m api.Image, o Options) string {
	t.Helper()
	had := raster.Clone(m)
	text, e := Write(m, o)
	if e != api.OK || !raster.Same(m, had) {
		t.Fatalf("%d by %d, %+v: %d, or the image was changed", m.Width, m.Height, o, e)
	}
	if want := modelWrite(m, o); text != want {
		t.Errorf("%v, %+v: %x, not %x", m, o, text, want)
	}
	if !Is(text) {
		t.Errorf("%.10q is no file", text)
	}
	back(t, m, o)
	return text
}

// back holds what a file that is written is decoded as against what it was written of.
func back(t *testing.T, m api.Image, o Options) {
	t.Helper()
	text, e := Write(m, o)
	if e != api.OK {
		t.Fatalf("%d by %d, %+v: %d", m.Width, m.Height, o, e)
	}
	s := source(t, much, text)
	got, f := decode(t, s)
	if f != (api.Fault{}) || !raster.Same(got, m) || s.Left() != 0 {
		t.Errorf("%d by %d, %+v: %+v, or another image", m.Width, m.Height, o, f)
	}
}

// none holds what isn't written against why.
func none(t *testing.T, m api.Image, o Options, want api.Errno) {
	t.Helper()
	if text, e := Write(m, o); text != "" || e != want {
		t.Errorf("%d by %d, %d bytes, %+v: %.60q, %d, not %d", m.Width, m.Height, len(m.Pix), o, text, e, want)
	}
}

// P29.1, P29.2: files by hand, byte by byte.
func TestWriteByHand(t *testing.T) {
	const one = "\x00\x00\x00\x01"
	for _, x := range []struct {
		m    api.Image
		o    Options
		want string
	}{
		{image(1, 1, 1, 2, 3), Options{24, 1}, sign + one + one + words(24, 4, 1, 0, 0) + "\x03\x02\x01\x00"},
		{image(1, 1, 1, 2, 3), Options{24, 3}, sign + one + one + words(24, 4, 3, 0, 0) + "\x01\x02\x03\x00"},
		{image(1, 1, 1, 2, 3), Options{32, 0}, sign + one + one + words(32, 4, 0, 0, 0) + "\x00\x03\x02\x01"},
		{image(1, 1, 1, 2, 3), Options{32, 3}, sign + one + one + words(32, 4, 3, 0, 0) + "\x00\x01\x02\x03"},
		{image(1, 2, 9, 8, 7, 6, 5, 4), Options{8, 0}, sign + words(1, 2, 8, 4, 0, 1, 6) + "\x09\x06\x08\x05\x07\x04" + "\x00\x00\x01\x00"},
		{greys(3, 1, 0, 255, 0), Options{1, 1}, sign + words(3, 1, 1, 2, 1, 0, 0) + "\xa0\x00"},
		{greys(9, 1, 255, 255, 255, 255, 0, 0, 0, 0, 255), Options{1, 3}, sign + words(9, 1, 1, 2, 3, 0, 0) + "\x0f\x00"},
		// Stretches go on over the ends of rows; what is told of the rows' bytes is how many they have in packets.
		{greys(1, 2, 0, 0), Options{1, 2}, sign + words(1, 2, 1, 6, 2, 0, 0) + "\x80\x00\x00\x80\x00\x00"},
		{image(2, 2, 7, 7, 7, 7, 7, 7, 7, 7, 7, 7, 7, 128), Options{24, 2}, sign + words(2, 2, 24, 7, 2, 0, 0) + "\x80\x08\x07\x80\x00\x07\x07"},
		{greys(2, 2, 1, 1, 1, 1), Options{8, 2}, sign + words(2, 2, 8, 3, 2, 1, 3) + "\x01\x01\x01" + "\x80\x03\x00"},
	} {
		if text := written(t, x.m, x.o); text != x.want {
			t.Errorf("%v, %+v: %x, not %x", x.m, x.o, text, x.want)
		}
	}
}

// some is an image that a file can be written of.
func some(next func(n int) int, width, height int, o Options) api.Image {
	most := map[int]int{1: 2, 8: 256, 24: 1000, 32: 1000}[o.Bits]
	var l [][]byte
	for i := range 1 + next(most) {
		c := []byte{byte(i), byte(next(256)), byte(128 + next(2)), 255}
		if o.Bits == 1 {
			v := byte(255 * next(2))
			c = []byte{v, v, v, 255}
		}
		l = append(l, c)
	}
	m := api.Image{Width: width, Height: height}
	for len(m.Pix) < 4*width*height {
		c := l[next(len(l))]
		for range 1 + next(3)*next(30) {
			if len(m.Pix) < 4*width*height {
				m.Pix = append(m.Pix, c...)
			}
		}
	}
	return m
}

// P29.1, P29.2: images of any sides and colours, by all options: the file, byte by byte, which is decoded as it was.
func TestWrite(t *testing.T) {
	next := random(5)
	for _, o := range options() {
		for range 300 {
			written(t, some(next, 1+next(60), 1+next(12), o), o)
		}
		for width := 1; width < 40; width++ {
			written(t, some(next, width, 2, o), o)
		}
		for n := 250; n < 265; n++ {
			written(t, greys(n, 1, make([]byte, n)...), o)
			written(t, greys(1, n, make([]byte, n)...), o)
		}
	}
}

// P29.1, P29.2: as many colours as there may be; one more isn't written.
func TestColors(t *testing.T) {
	for kind := range 4 {
		o := Options{8, kind}
		m := api.Image{Height: 1}
		for n := range 300 {
			m.Width++
			m.Pix = append(m.Pix, 7, byte(n), byte(n>>8), 255)
			if n < 256 {
				written(t, m, o)
				continue
			}
			none(t, m, o, api.ErrForm)
			none(t, api.Image{Width: 1, Height: m.Width, Pix: m.Pix}, o, api.ErrForm)
		}
		// The first colours once more are no new ones.
		m.Pix = append(m.Pix[:4*256], m.Pix[:4*256]...)
		m.Width = 512
		written(t, m, o)
	}
}

// P29.1: a pixel that isn't solid, or of one bit neither black nor white, wherever it stands.
func TestWriteForm(t *testing.T) {
	for _, o := range options() {
		for at := range 6 {
			for v := range 256 {
				m := greys(3, 2, 0, 0, 255, 0, 255, 255)
				m.Pix[4*at+3] = byte(v)
				if v == 255 {
					written(t, m, o)
				} else {
					none(t, m, o, api.ErrForm)
				}
				for k := range 3 {
					m := greys(3, 2, 0, 0, 255, 0, 255, 255)
					if o.Bits != 1 || m.Pix[4*at+k] == byte(v) {
						continue
					}
					m.Pix[4*at+k] = byte(v)
					none(t, m, o, api.ErrForm)
				}
			}
		}
		for v := 1; v < 255; v++ {
			if o.Bits == 1 {
				none(t, greys(1, 1, byte(v)), o, api.ErrForm)
			}
		}
	}
}

// P29.1: options by which there are no files, ahead of all else that is wrong.
func TestWriteArg(t *testing.T) {
	for _, bits := range []int{math.MinInt, -32, -8, -1, 0, 1, 2, 3, 4, 7, 8, 9, 15, 16, 23, 24, 25, 31, 32, 33, 256 + 1, 256 + 8, 1<<32 + 1, 1<<32 + 8, math.MaxInt} {
		for _, kind := range []int{math.MinInt, -256, -2, -1, 0, 1, 2, 3, 4, 5, 256, 1 << 32, 1<<32 + 1, math.MaxInt} {
			o := Options{bits, kind}
			right := false
			for _, l := range options() {
				right = right || o == l
			}
			for i, m := range []api.Image{greys(1, 1, 255), {Width: 1, Height: 1, Pix: make([]byte, 4)}, {}, {Width: -1, Height: 1}} {
				switch {
				case !right:
					none(t, m, o, api.ErrArg)
				case i > 1:
					none(t, m, o, api.ErrSize)
				case i == 1:
					none(t, m, o, api.ErrForm)
				default:
					written(t, m, o)
				}
			}
		}
	}
}

// P29.1: images that aren't right, whatever their pixels are.
func TestWriteSize(t *testing.T) {
	for _, m := range []api.Image{
		{},
		{Width: 1, Height: 1},
		{Width: 1, Height: 1, Pix: make([]byte, 3)},
		{Width: 1, Height: 1, Pix: make([]byte, 5)},
		{Width: 1, Height: 1, Pix: make([]byte, 8)},
		{Width: 2, Height: 1, Pix: make([]byte, 4)},
		{Width: 0, Height: 1, Pix: make([]byte, 4)},
		{Width: 1, Height: 0},
		{Width: -1, Height: -1, Pix: make([]byte, 4)},
		{Width: api.MaxSide + 1, Height: 1, Pix: make([]byte, 4*(api.MaxSide+1))},
		{Width: 1, Height: api.MaxSide + 1, Pix: make([]byte, 4*(api.MaxSide+1))},
		{Width: 1 << 32, Height: 1 << 32, Pix: make([]byte, 4)},
		{Width: 1 << 62, Height: 4},
		{Width: math.MaxInt, Height: math.MaxInt},
		{Width: math.MinInt, Height: math.MinInt},
	} {
		for _, o := range options() {
			none(t, m, o, api.ErrSize)
		}
	}
}

// P29.2: the greatest sides.
func TestGreat(t *testing.T) {
	for _, o := range options() {
		for _, m := range []api.Image{{Width: api.MaxSide, Height: 2}, {Width: 2, Height: api.MaxSide}} {
			for i := range m.Width * m.Height {
				v := byte(255 * (i >> 9 & 1))
				m.Pix = append(m.Pix, v, v, v, 255)
			}
			back(t, m, o)
		}
	}
}
