package encode

import (
	"math"
	"slices"
	"strings"
	"testing"

	"tintype/api"
	"tintype/bmp"
	"tintype/decode"
	"tintype/ff"
	"tintype/ico"
	"tintype/need"
	"tintype/pcx"
	"tintype/pnm"
	"tintype/qoi"
	"tintype/raster"
	"tintype/sniff"
	"tintype/sun"
	"tintype/tga"
)

// random tells numbers below n, of a seed of its own.
func random(seed uint64) func(n int) int {
	return func(n int) int {
		seed = seed*6364136223846793005 + 1442695040888963407
		return int(seed>>33) % n
	}
}

// of is an image of pixels, four bytes each.
func of(width, height int, pix string) api.Image {
	return api.Image{Width: width, Height: height, Pix: []byte(pix)}
}

// pixel is an image of one.
func pixel(r, g, b, a byte) api.Image { return of(1, 1, string([]byte{r, g, b, a})) }

// plain is an image of one colour.
func plain(width, height int, pix string) api.Image {
	return of(width, height, strings.Repeat(pix, width*height))
}

// solid tells whether all pixels of an image are.
func solid(m api.Image) bool {
	for i := 3; i < len(m.Pix); i += 4 {
		if m.Pix[i] != 255 {
			return false
		}
	}
	return true
}

// model is what Write tells, by the layers' writers and the chapter's options.
func model(m api.Image, format int) (string, api.Errno) {
	switch {
	case format < 1 || format > 8:
		return "", api.ErrArg
	case m.Width < 1 || m.Width > 16384 || m.Height < 1 || m.Height > 16384 || len(m.Pix) != 4*m.Width*m.Height:
		return "", api.ErrSize
	}
	switch format {
	case 1:
		if solid(m) {
			return bmp.Write(m, bmp.Options{Depth: 24})
		}
		return bmp.Write(m, bmp.Options{Depth: 32, Masked: true})
	case 2:
		return tga.Write(m, tga.Options{Packed: true, Bits: 32, Alpha: 8})
	case 3:
		if pnm.Kind(m) == 0 {
			return "", api.ErrForm
		}
		return pnm.Write(m, pnm.Kind(m))
	case 4:
		return ico.Write(m, ico.Options{Depth: 32})
	case 5:
		return qoi.Write(m)
	case 6:
		return ff.Write(m)
	case 7:
		return pcx.Write(m, pcx.Options{Bits: 8, Planes: 3})
	}
	return sun.Write(m, sun.Options{Bits: 24, Type: 1})
}

// formats are numbers of all formats, and such as are none.
func formats() []int {
	return []int{math.MinInt, -8, -1, 0, 1, 2, 3, 4, 5, 6, 7, 8, 9, 10, 255, 1<<32 + 1, math.MaxInt}
}

// expect holds all that is told of an image against the model.
func expect(t *testing.T, m api.Image) {
	t.Helper()
	var all []int
	least, which, e := "", 0, api.ErrSize
	was := strings.Clone(string(m.Pix))
	for _, format := range formats() {
		want, wrong := model(m, format)
		s, e := Write(m, format)
		if s != want || e != wrong {
			t.Errorf("%d by %d of %d: %d bytes, %d, not %d bytes, %d", m.Width, m.Height, format, len(s), e, len(want), wrong)
		}
		if Can(m, format) != (wrong == api.OK) {
			t.Errorf("%d by %d of %d: %t", m.Width, m.Height, format, wrong != api.OK)
		}
		if wrong == api.OK {
			all = append(all, format)
			if which == 0 || len(want) < len(least) {
				least, which = want, format
			}
		}
	}
	if raster.Right(m) {
		e = api.OK
	}
	if got := Formats(m); !slices.Equal(got, all) {
		t.Errorf("%d by %d: %d, not %d", m.Width, m.Height, got, all)
	}
	if s, format, wrong := Smallest(m); s != least || format != which || wrong != e {
		t.Errorf("%d by %d: %d bytes of %d, %d, not %d bytes of %d, %d", m.Width, m.Height, len(s), format, wrong, len(least), which, e)
	}
	if string(m.Pix) != was {
		t.Errorf("%d by %d was changed", m.Width, m.Height)
	}
}

// decoded holds the usual files of an image that is right against their signs, and what they are decoded as.
func decoded(t *testing.T, m api.Image) {
	t.Helper()
	for _, format := range []int{api.QOI, api.FF, api.BMP, api.TGA} {
		if !Can(m, format) || !slices.Contains(Formats(m), format) {
			t.Errorf("%d by %d: no file of %d", m.Width, m.Height, format)
		}
	}
	for _, format := range Formats(m) {
		s, e := Write(m, format)
		g, f := need.Need(s)
		if e != api.OK || sniff.Format(s) != format || f != (api.Fault{}) {
			t.Errorf("%d by %d of %d: %d, of %d, %+v", m.Width, m.Height, format, e, sniff.Format(s), f)
		}
		got, f, _ := decode.Decode(s, g)
		if !raster.Same(got, m) || f != (api.Fault{}) {
			t.Errorf("%d by %d of %d: %+v", m.Width, m.Height, format, f)
		}
	}
	s, format, e := Smallest(m)
	if want, _ := Write(m, format); e != api.OK || s != want || s == "" {
		t.Errorf("%d by %d: of %d, %d", m.Width, m.Height, format, e)
	}
}

// P33.1: one pixel as each usual file, by hand.
func TestByHand(t *testing.T) {
	m := pixel(1, 2, 3, 255)
	zero := func(n int) string { return strings.Repeat("\x00", n) }
	for format, want := range map[int]string{
		api.BMP: "BM\x3a" + zero(7) + "\x36" + zero(3) + "\x28" + zero(3) + "\x01" + zero(3) + "\x01" + zero(3) + "\x01\x00\x18\x00" + zero(24) + "\x03\x02\x01\x00",
		api.TGA: "\x00\x00\x0a" + zero(9) + "\x01\x00\x01\x00\x20\x08" + "\x00\x03\x02\x01\xff",
		api.PNM: "P6\n1 1\n255\n\x01\x02\x03",
		api.ICO: "\x00\x00\x01\x00\x01\x00" + "\x01\x01\x00\x00\x01\x00\x20\x00\x30\x00\x00\x00\x16\x00\x00\x00" + "\x28" + zero(3) + "\x01" + zero(3) + "\x02" + zero(3) + "\x01\x00\x20\x00" + zero(24) + "\x03\x02\x01\xff" + zero(4),
		api.QOI: "qoif\x00\x00\x00\x01\x00\x00\x00\x01\x04\x00" + "\xa2\x79" + zero(7) + "\x01",
		api.FF:  "farbfeld\x00\x00\x00\x01\x00\x00\x00\x01\x01\x01\x02\x02\x03\x03\xff\xff",
		api.PCX: "\x0a\x05\x01\x08" + zero(61) + "\x03\x02\x00" + zero(60) + "\x01\x00\x02\x00\x03\x00",
		api.SUN: "\x59\xa6\x6a\x95\x00\x00\x00\x01\x00\x00\x00\x01\x00\x00\x00\x18\x00\x00\x00\x04\x00\x00\x00\x01" + zero(8) + "\x03\x02\x01\x00",
	} {
		s, e := Write(m, format)
		if s != want || e != api.OK {
			t.Errorf("%d: %q, %d, not %q", format, s, e, want)
		}
	}
	// Of a pixel that isn't solid BMP has masks.
	s, e := Write(pixel(1, 2, 3, 4), api.BMP)
	if e != api.OK || len(s) != 14+56+4 || s[14] != 56 || s[28] != 32 || s[30] != 3 || !strings.HasSuffix(s, "\x00\x00\x00\xff\x03\x02\x01\x04") {
		t.Errorf("%q, %d", s, e)
	}
}

// P33.1: the chapter's example, and others near it.
func TestFormats(t *testing.T) {
	for _, x := range []struct {
		image api.Image
		want  []int
	}{
		{pixel(1, 2, 3, 128), []int{api.BMP, api.TGA, api.ICO, api.QOI, api.FF}},
		{pixel(1, 2, 3, 254), []int{api.BMP, api.TGA, api.ICO, api.QOI, api.FF}},
		{pixel(1, 2, 3, 0), []int{api.BMP, api.TGA, api.ICO, api.QOI, api.FF}},
		{pixel(1, 2, 3, 255), []int{api.BMP, api.TGA, api.PNM, api.ICO, api.QOI, api.FF, api.PCX, api.SUN}},
		{plain(256, 256, "\x01\x02\x03\xff"), []int{api.BMP, api.TGA, api.PNM, api.ICO, api.QOI, api.FF, api.PCX, api.SUN}},
		{plain(257, 1, "\x01\x02\x03\xff"), []int{api.BMP, api.TGA, api.PNM, api.QOI, api.FF, api.PCX, api.SUN}},
		{plain(1, 257, "\x01\x02\x03\xff"), []int{api.BMP, api.TGA, api.PNM, api.QOI, api.FF, api.PCX, api.SUN}},
		{plain(1, 257, "\x01\x02\x03\xfe"), []int{api.BMP, api.TGA, api.QOI, api.FF}},
		{api.Image{}, nil},
	} {
		if got := Formats(x.image); !slices.Equal(got, x.want) {
			t.Errorf("%d by %d: %d, not %d", x.image.Width, x.image.Height, got, x.want)
		}
		expect(t, x.image)
	}
	half := pixel(1, 2, 3, 128)
	for _, format := range []int{api.PNM, api.PCX, api.SUN} {
		if s, e := Write(half, format); s != "" || e != api.ErrForm || Can(half, format) {
			t.Errorf("%d: %q, %d", format, s, e)
		}
	}
	if s, e := Write(plain(257, 1, "\x01\x02\x03\xff"), api.ICO); s != "" || e != api.ErrSize {
		t.Errorf("%q, %d", s, e)
	}
}

// P33.1: images that aren't right, of all formats; that there is no format comes first.
func TestWrong(t *testing.T) {
	one := "\x01\x02\x03\x04"
	for _, m := range []api.Image{
		{},
		{Width: 1, Height: 1},
		of(1, 1, one[:3]),
		of(1, 1, one+"\x00"),
		of(0, 1, ""),
		of(1, 0, ""),
		of(0, 0, one),
		of(-1, -1, one),
		of(2, 1, one),
		of(1, 2, one),
		of(math.MinInt, 2, one),
		of(1<<62, 4, ""),
		of(1<<31, 1<<31, ""),
		plain(16385, 1, one),
		plain(1, 16385, one),
	} {
		expect(t, m)
		for _, format := range formats() {
			want := api.ErrSize
			if format < 1 || format > 8 {
				want = api.ErrArg
			}
			if s, e := Write(m, format); s != "" || e != want || Can(m, format) {
				t.Errorf("%d by %d of %d: %q, %d", m.Width, m.Height, format, s, e)
			}
		}
		if s, format, e := Smallest(m); s != "" || format != 0 || e != api.ErrSize {
			t.Errorf("%d by %d: %q, %d, %d", m.Width, m.Height, s, format, e)
		}
		if l := Formats(m); len(l) > 0 {
			t.Errorf("%d by %d: %d", m.Width, m.Height, l)
		}
	}
	for _, format := range formats() {
		if s, e := Write(pixel(0, 0, 0, 255), format); (e == api.ErrArg) != (format < 1 || format > 8) || e != api.OK && s != "" {
			t.Errorf("%d: %q, %d", format, s, e)
		}
	}
}

// P33.1: the kind of a PNM file is the least that can be.
func TestKinds(t *testing.T) {
	for _, x := range []struct {
		image api.Image
		want  string
	}{
		{plain(9, 1, "\x00\x00\x00\xff"), "P4\n9 1\n\xff\x80"},
		{of(2, 1, "\x00\x00\x00\xff\xff\xff\xff\xff"), "P4\n2 1\n\x80"},
		{of(2, 1, "\x00\x00\x00\xff\xfe\xfe\xfe\xff"), "P5\n2 1\n255\n\x00\xfe"},
		{of(1, 2, "\x00\x00\x00\xff\xfe\xfe\xff\xff"), "P6\n1 2\n255\n\x00\x00\x00\xfe\xfe\xff"},
	} {
		if s, e := Write(x.image, api.PNM); s != x.want || e != api.OK {
			t.Errorf("%q, %d, not %q", s, e, x.want)
		}
		expect(t, x.image)
		decoded(t, x.image)
	}
}

// P33.1: the smallest files: of those with as few bytes the least format's.
func TestSmallest(t *testing.T) {
	for _, x := range []struct {
		image  api.Image
		format int
		bytes  int
	}{
		{pixel(0, 0, 0, 255), api.PNM, 8},
		{pixel(7, 7, 7, 255), api.PNM, 12},
		{pixel(1, 2, 3, 0), api.TGA, 23},
		{pixel(0, 0, 0, 0), api.TGA, 23}, // and QOI
		{plain(64, 64, "\x01\x02\x03\xff"), api.QOI, 14 + 2 + 67 + 8},
		{plain(64, 64, "\x09\x08\x07\x00"), api.QOI, 14 + 5 + 67 + 8},
		{plain(5, 1, "\x09\x08\x07\x06"), api.TGA, 18 + 5},
		{of(2, 1, "\x00\x00\x00\xff\x00\x00\x00\x00"), api.QOI, 14 + 1 + 1 + 8},
	} {
		s, format, e := Smallest(x.image)
		if e != api.OK || format != x.format || len(s) != x.bytes {
			t.Errorf("%d by %d: %d bytes of %d, %d", x.image.Width, x.image.Height, len(s), format, e)
		}
		expect(t, x.image)
		decoded(t, x.image)
	}
}

// P33.2: all images of a few pixels of some colours.
func TestFew(t *testing.T) {
	colors := []string{"\x00\x00\x00\xff", "\xff\xff\xff\xff", "\x80\x80\x80\xff", "\x01\x02\x03\xff", "\x00\x00\x00\x00", "\x01\x02\x03\x00", "\x01\x02\x03\x80", "\xff\xff\xff\xfe"}
	for _, a := range colors {
		expect(t, of(1, 1, a))
		decoded(t, of(1, 1, a))
		for _, b := range colors {
			expect(t, of(2, 1, a+b))
			decoded(t, of(2, 1, a+b))
			decoded(t, of(1, 2, a+b))
			for _, c := range colors {
				decoded(t, of(3, 1, a+b+c))
				expect(t, of(1, 3, a+b+c))
			}
		}
	}
}

// P33.2: any images, of few colours, of stretches, and of any bytes.
func TestAny(t *testing.T) {
	next := random(1)
	for i := range 600 {
		m := api.Image{Width: 1 + next(40), Height: 1 + next(12)}
		if i%50 == 0 {
			m.Width = 250 + next(10)
		}
		m.Pix = make([]byte, 4*m.Width*m.Height)
		colors := make([]byte, 4*(1+next(9)))
		for at := range colors {
			colors[at] = byte(next(256))
			if at%4 == 3 && i%3 > 0 {
				colors[at] = byte(255 * (i % 3 % 2))
			}
			if at%4 < 3 && i%5 == 0 {
				colors[at] = byte(255 * (at / 4 % 2))
			}
		}
		c := 0
		for at := 0; at < len(m.Pix); at += 4 {
			if next(4) == 0 {
				c = 4 * next(len(colors)/4)
			}
			copy(m.Pix[at:], colors[c:c+4])
			if i%7 == 0 {
				m.Pix[at] = byte(next(256))
			}
			if i%11 == 0 {
				m.Pix[at+3] = byte(next(256))
			}
		}
		expect(t, m)
		decoded(t, m)
	}
}

// P33.2: sides that are the greatest.
func TestGreatest(t *testing.T) {
	for _, c := range []string{"\x01\x02\x03\xff", "\x01\x02\x03\x04"} {
		for _, m := range []api.Image{plain(16384, 1, c), plain(1, 16384, c), plain(256, 256, c), plain(255, 257, c)} {
			expect(t, m)
			decoded(t, m)
		}
	}
}

// P33.1: what is told is new memory, and spare room isn't touched.
func TestNewMemory(t *testing.T) {
	m := pixel(1, 2, 3, 255)
	m.Pix = append(m.Pix, 9, 9)[:4]
	a, b := Formats(m), Formats(m)
	a[0] = 99
	if b[0] != api.BMP || Formats(m)[0] != api.BMP {
		t.Error(a, b)
	}
	for _, format := range b {
		s, _ := Write(m, format)
		was := strings.Clone(s)
		m.Pix[0]++
		if s != was {
			t.Errorf("%d: %q", format, s)
		}
	}
	if spare := m.Pix[:6]; spare[4] != 9 || spare[5] != 9 {
		t.Error(spare)
	}
}
