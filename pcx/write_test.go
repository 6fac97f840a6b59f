package pcx

import (
	"math"
	"strings"
	"testing"

	"tintype/api"
	"tintype/raster"
)

// unpack is the bytes of packets, whatever rows they are of.
func unpack(t *testing.T, s string) string {
	t.Helper()
	var b []byte
	for i := 0; i < len(s); i++ {
		n := 1
		if s[i] >= 0xc0 {
			n = int(s[i]) - 0xc0
			i++
		}
		if i == len(s) || n == 0 {
			t.Fatalf("%x ends in a packet, or has an empty one", s)
		}
		b = append(b, strings.Repeat(s[i:i+1], n)...)
	}
	return string(b)
}

// modelPack is the packets of a row by the chapter's words.
func modelPack(row string) (s string) {
	for len(row) > 0 {
		n := 0
		for n < len(row) && n < 63 && row[n] == row[0] {
			n++
		}
		if n > 1 || row[0] >= 192 {
			s += string([]byte{byte(192 + n)})
		}
		s += row[:1]
		row = row[n:]
	}
	return s
}

// packed holds the packets of a row against the model, and against the row.
func packed(t *testing.T, row string) {
	t.Helper()
	got := Pack(row)
	if want := modelPack(row); got != want {
		t.Errorf("%x: %x, not %x", row, got, want)
	}
	if back := unpack(t, got); back != row {
		t.Errorf("%x: %x are %x", row, got, back)
	}
}

// P28.1: packets by hand, of all bytes, of stretches of all lengths, and of all short rows.
func TestPack(t *testing.T) {
	for row, want := range map[string]string{
		"":                                  "",
		"\x00":                              "\x00",
		"\x00\x00":                          "\xc2\x00",
		"\xbf":                              "\xbf",
		"\xc0":                              "\xc1\xc0",
		"\xff":                              "\xc1\xff",
		"\xbf\xc0\xbf":                      "\xbf\xc1\xc0\xbf",
		"aab":                               "\xc2ab",
		"abb":                               "a\xc2b",
		strings.Repeat("a", 63):             "\xffa",
		strings.Repeat("a", 64):             "\xffaa",
		strings.Repeat("a", 65):             "\xffa\xc2a",
		strings.Repeat("\xc1", 2):           "\xc2\xc1",
		strings.Repeat("\xc0", 64) + "\x01": "\xff\xc0\xc1\xc0\x01",
	} {
		if got := Pack(row); got != want {
			t.Errorf("%x: %x, not %x", row, got, want)
		}
	}
	for v := range 256 {
		for n := range 200 {
			row := strings.Repeat(string([]byte{byte(v)}), n)
			packed(t, row)
			packed(t, "a"+row+"\xc0")
		}
	}
	alphabet := "\x00\xbf\xc0\xff"
	for n := range 4096 {
		row := ""
		for k := n; k > 0; k /= 4 {
			row += alphabet[k%4 : k%4+1]
		}
		packed(t, row)
	}
}

// modelWrite is a file of an image that can be written so, by the chapter's words.
func modelWrite(m api.Image, o Options) string {
	var colors []string
	number := func(x, y int) int {
		i := 4 * (y*m.Width + x)
		c := string(m.Pix[i : i+3])
		if o == (Options{1, 1}) {
			return int(c[0]) / 255
		}
		for n, k := range colors {
			if k == c {
				return n
			}
		}
		colors = append(colors, c)
		return len(colors) - 1
	}
	line := (m.Width*o.Bits + 7) / 8
	line += line % 2
	rows := ""
	for y := range m.Height {
		row := make([]byte, line*o.Planes)
		for x := range m.Width {
			if o == (Options{8, 3}) {
				for k := range 3 {
					row[k*line+x] = m.Pix[4*(y*m.Width+x)+k]
				}
				continue
			}
			n := number(x, y)
			if o.Bits == 8 {
				row[x] = byte(n)
				continue
			}
			for plane := range o.Planes {
				row[plane*line+x/8] += byte(n >> plane % 2 * (128 >> (x % 8)))
			}
		}
		rows += modelPack(string(row))
	}
	two := func(v int) string { return string([]byte{byte(v % 256), byte(v / 256)}) }
	zeros := strings.Repeat("\x00", 1024)
	entries := strings.Join(colors, "")
	text := "\x0a\x05\x01" + string([]byte{byte(o.Bits)}) + two(0) + two(0) + two(m.Width-1) + two(m.Height-1) + zeros[:4]
	if o == (Options{1, 4}) {
		text += entries
	}
	text += zeros[:65-len(text)] + string([]byte{byte(o.Planes)}) + two(line)
	text += zeros[:128-len(text)] + rows
	if o == (Options{8, 1}) {
		text += "\x0c" + entries + zeros[:768-len(entries)]
	}
	return text
}

// written holds the file of an image against the model, and against the image that it is decoded as; the image isn't changed.
func written(t *testing.T, m api.Image, o Options) string {
	t.Helper()
	had := raster.Clone(m)
	text, e := Write(m, o)
	if e != api.OK || !raster.Same(m, had) {
		t.Fatalf("%d by %d, %+v: %d, or the image was changed", m.Width, m.Height, o, e)
	}
	if want := modelWrite(m, o); text != want {
		t.Errorf("%v, %+v: %x, not %x", m, o, text, want)
	}
	if !Is(text) {
		t.Errorf("%.10q is no file", text)
	}
	back(t, m, o)
	return text
}

// back holds what a file that is written is decoded as against what it was written of.
func back(t *testing.T, m api.Image, o Options) {
	t.Helper()
	text, e := Write(m, o)
	if e != api.OK {
		t.Fatalf("%d by %d, %+v: %d", m.Width, m.Height, o, e)
	}
	got, f := decode(t, source(t, much, text))
	if f != (api.Fault{}) || !raster.Same(got, m) {
		t.Errorf("%d by %d, %+v: %+v, or another image", m.Width, m.Height, o, f)
	}
}

// none holds what isn't written against why.
func none(t *testing.T, m api.Image, o Options, want api.Errno) {
	t.Helper()
	if text, e := Write(m, o); text != "" || e != want {
		t.Errorf("%d by %d, %d bytes, %+v: %.60q, %d, not %d", m.Width, m.Height, len(m.Pix), o, text, e, want)
	}
}

// P28.1, P28.2: files by hand, byte by byte.
func TestWriteByHand(t *testing.T) {
	zeros := strings.Repeat("\x00", 1024)
	head := func(bits, planes, right, bottom, line byte, entries string) string {
		return "\x0a\x05\x01" + string([]byte{bits, 0, 0, 0, 0, right, 0, bottom, 0, 0, 0, 0, 0}) + entries + zeros[:49-len(entries)] + string([]byte{planes, line, 0}) + zeros[:60]
	}
	for _, x := range []struct {
		m    api.Image
		o    Options
		want string
	}{
		{image(1, 1, 1, 2, 3), Options{8, 3}, head(8, 3, 0, 0, 2, "") + "\x01\x00\x02\x00\x03\x00"},
		// A stretch goes on over the planes, but not over the rows.
		{image(2, 2, 1, 2, 7, 2, 2, 255, 255, 255, 255, 255, 255, 255), Options{8, 3}, head(8, 3, 1, 1, 2, "") + "\x01\xc3\x02\x07\xc1\xff" + "\xc6\xff"},
		{image(3, 1, 9, 8, 7, 6, 5, 4, 9, 8, 7), Options{8, 1}, head(8, 1, 2, 0, 4, "") + "\x00\x01\xc2\x00" + "\x0c\x09\x08\x07\x06\x05\x04" + zeros[:762]},
		{image(1, 2, 9, 8, 7, 6, 5, 4), Options{1, 4}, head(1, 4, 0, 1, 2, "\x09\x08\x07\x06\x05\x04") + "\xc8\x00" + "\x80\xc7\x00"},
		{greys(3, 1, 255, 0, 255), Options{1, 1}, head(1, 1, 2, 0, 2, "") + "\xa0\x00"},
		{greys(9, 1, 255, 255, 255, 255, 0, 0, 0, 0, 255), Options{1, 1}, head(1, 1, 8, 0, 2, "") + "\xc1\xf0\x80"},
		{greys(1, 1, 0), Options{1, 1}, head(1, 1, 0, 0, 2, "") + "\xc2\x00"},
		{greys(1, 1, 255), Options{1, 4}, head(1, 4, 0, 0, 2, "\xff\xff\xff") + "\xc8\x00"},
	} {
		if text := written(t, x.m, x.o); text != x.want {
			t.Errorf("%v, %+v: %x, not %x", x.m, x.o, text, x.want)
		}
	}
}

// some is an image that a file can be written of.
func some(next func(n int) int, width, height int, o Options) api.Image {
	most := map[Options]int{{8, 3}: 1000, {8, 1}: 256, {1, 4}: 16, {1, 1}: 2}[o]
	var l [][]byte
	for i := range 1 + next(most) {
		c := []byte{byte(i), byte(next(256)), byte(next(256)), 255}
		if o == (Options{1, 1}) {
			v := byte(255 * next(2))
			c = []byte{v, v, v, 255}
		}
		l = append(l, c)
	}
	m := api.Image{Width: width, Height: height}
	for len(m.Pix) < 4*width*height {
		c := l[next(len(l))]
		for range 1 + next(3)*next(30) {
			if len(m.Pix) < 4*width*height {
				m.Pix = append(m.Pix, c...)
			}
		}
	}
	return m
}

// P28.1, P28.2: images of any sides and colours, by all options: the file, byte by byte, which is decoded as it was.
func TestWrite(t *testing.T) {
	next := random(5)
	for _, o := range pairs {
		for range 500 {
			written(t, some(next, 1+next(60), 1+next(12), o), o)
		}
		for width := 1; width < 70; width++ {
			written(t, some(next, width, 2, o), o)
		}
	}
}

// P28.1, P28.2: as many colours as there may be; one more isn't written.
func TestColors(t *testing.T) {
	for o, most := range map[Options]int{{8, 1}: 256, {1, 4}: 16} {
		m := api.Image{Height: 1}
		for n := range 300 {
			m.Width++
			m.Pix = append(m.Pix, 7, byte(n), byte(n>>8), 255)
			if n < most {
				written(t, m, o)
				continue
			}
			none(t, m, o, api.ErrForm)
			none(t, api.Image{Width: 1, Height: m.Width, Pix: m.Pix}, o, api.ErrForm)
		}
		// The first colours once more are no new ones.
		m.Pix = append(m.Pix[:4*most], m.Pix[:4*most]...)
		m.Width = 2 * most
		written(t, m, o)
	}
}

// P28.1: a pixel that isn't solid, or of one bit and plane neither black nor white, wherever it stands.
func TestWriteForm(t *testing.T) {
	for _, o := range pairs {
		for at := range 6 {
			for v := range 256 {
				m := greys(3, 2, 0, 0, 255, 0, 255, 255)
				m.Pix[4*at+3] = byte(v)
				if v == 255 {
					written(t, m, o)
				} else {
					none(t, m, o, api.ErrForm)
				}
				for k := range 3 {
					m := greys(3, 2, 0, 0, 255, 0, 255, 255)
					if o != (Options{1, 1}) || m.Pix[4*at+k] == byte(v) {
						continue
					}
					m.Pix[4*at+k] = byte(v)
					none(t, m, o, api.ErrForm)
				}
			}
		}
		for v := 1; v < 255; v++ {
			if o == (Options{1, 1}) {
				none(t, greys(1, 1, byte(v)), o, api.ErrForm)
			}
		}
	}
}

// P28.1: options by which there are no files, ahead of all else that is wrong.
func TestWriteArg(t *testing.T) {
	numbers := []int{math.MinInt, -8, -1, 0, 1, 2, 3, 4, 5, 7, 8, 9, 16, 24, 32, 256 + 1, 256 + 8, 1<<32 + 1, 1<<32 + 8, math.MaxInt}
	for _, bits := range numbers {
		for _, planes := range numbers {
			o := Options{bits, planes}
			right := false
			for _, pair := range pairs {
				right = right || o == pair
			}
			for i, m := range []api.Image{greys(1, 1, 255), {Width: 1, Height: 1, Pix: make([]byte, 4)}, {}, {Width: -1, Height: 1}} {
				switch {
				case !right:
					none(t, m, o, api.ErrArg)
				case i > 1:
					none(t, m, o, api.ErrSize)
				case i == 1:
					none(t, m, o, api.ErrForm)
				default:
					written(t, m, o)
				}
			}
		}
	}
}

// P28.1: images that aren't right, whatever their pixels are.
func TestWriteSize(t *testing.T) {
	for _, m := range []api.Image{
		{},
		{Width: 1, Height: 1},
		{Width: 1, Height: 1, Pix: make([]byte, 3)},
		{Width: 1, Height: 1, Pix: make([]byte, 5)},
		{Width: 1, Height: 1, Pix: make([]byte, 8)},
		{Width: 2, Height: 1, Pix: make([]byte, 4)},
		{Width: 0, Height: 1, Pix: make([]byte, 4)},
		{Width: 1, Height: 0},
		{Width: -1, Height: -1, Pix: make([]byte, 4)},
		{Width: api.MaxSide + 1, Height: 1, Pix: make([]byte, 4*(api.MaxSide+1))},
		{Width: 1, Height: api.MaxSide + 1, Pix: make([]byte, 4*(api.MaxSide+1))},
		{Width: 1 << 32, Height: 1 << 32, Pix: make([]byte, 4)},
		{Width: 1 << 62, Height: 4},
		{Width: math.MaxInt, Height: math.MaxInt},
		{Width: math.MinInt, Height: math.MinInt},
	} {
		for _, o := range pairs {
			none(t, m, o, api.ErrSize)
		}
	}
}

// P28.2: the greatest sides.
func TestGreat(t *testing.T) {
	for _, o := range pairs {
		for _, m := range []api.Image{{Width: api.MaxSide, Height: 2}, {Width: 2, Height: api.MaxSide}} {
			for i := range m.Width * m.Height {
				v := byte(255 * (i >> 9 & 1))
				m.Pix = append(m.Pix, v, v, v, 255)
			}
			back(t, m, o)
		}
	}
}
