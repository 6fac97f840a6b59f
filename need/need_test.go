package need

import (
	"encoding/binary"
	"math"
	"math/big"
	"slices"
	"strings"
	"testing"

	"tintype/api"
	"tintype/bmp"
	"tintype/ff"
	"tintype/ico"
	"tintype/ledger"
	"tintype/pcx"
	"tintype/pnm"
	"tintype/qoi"
	"tintype/raster"
	"tintype/sniff"
	"tintype/src"
	"tintype/sun"
	"tintype/tga"
)

// random tells numbers below n, of a seed of its own.
func random(seed uint64) func(n int) int {
	return func(n int) int {
		seed = seed*6364136223846793005 + 1442695040888963407
		return int(seed>>33) % n
	}
}

func fault(kind, format, at int) api.Fault {
	return api.Fault{Kind: kind, Format: format, At: at}
}

// unknown is what is wrong with bytes of no format.
var unknown = fault(api.Unsupported, api.Unknown, 0)

func le16(l ...int) string {
	var b []byte
	for _, v := range l {
		b = binary.LittleEndian.AppendUint16(b, uint16(v))
	}
	return string(b)
}

func le32(l ...int) string {
	var b []byte
	for _, v := range l {
		b = binary.LittleEndian.AppendUint32(b, uint32(v))
	}
	return string(b)
}

func be32(l ...int) string {
	var b []byte
	for _, v := range l {
		b = binary.BigEndian.AppendUint32(b, uint32(v))
	}
	return string(b)
}

// with is a text whose byte at a place is another.
func with(s string, at, v int) string {
	b := []byte(s)
	b[at] = byte(v)
	return string(b)
}

// sized is a text filled up with 0 to so many bytes.
func sized(s string, n int) string { return s + strings.Repeat("\x00", n-len(s)) }

// long is a long head of a bitmap, short the short one.
func long(size, width, height, bits, method, colors int) string {
	return sized(le32(size, width, height)+le16(1, bits)+le32(method, 0, 0, 0, colors), size)
}

func short(width, height, bits int) string { return le32(12) + le16(width, height, 1, bits) }

// bitmap is a BMP file up to the end of its head; the place of its pixels is one that no file has.
func bitmap(head string) string { return "BM" + le32(7, 7, 7) + head }

// entry is a directory's; single a directory of one, with its window.
func entry(width, height, size, place int) string {
	return string([]byte{byte(width), byte(height), 9, 0}) + le16(1, 24) + le32(size, place)
}

func single(kind, width, height int, window string) string {
	return le16(0, kind, 1) + entry(width, height, len(window), 22) + window
}

// targa is a TGA head.
func targa(mapped, kind, count, each, width, height, bits int) string {
	return string([]byte{3, byte(mapped), byte(kind)}) + le16(1, count) + string([]byte{byte(each)}) + le16(0, 0, width, height) + string([]byte{byte(bits), 0})
}

// dots is a PCX head, from a column and a row on.
func dots(left, top, width, height, bits, planes, line int) string {
	s := "\x0a\x05\x01" + string([]byte{byte(bits)}) + le16(left, top, left+width-1, top+height-1)
	return sized(sized(s, 65)+string([]byte{byte(planes)})+le16(line), 128)
}

// rays is the head of one of Sun's raster files.
func rays(width, height, bits, kind, mapKind, mapBytes int) string {
	return "\x59\xa6\x6a\x95" + be32(width, height, bits, 5, kind, mapKind, mapBytes)
}

// sample is a file's bytes up to the end of what its plan needs, and its plan; of what is cut off there is no sign up to some bytes.
type sample struct {
	text string
	plan Plan
	sign int
}

// bitmaps are BMP files.
func bitmaps() []sample {
	of := func(width, height, bits, colors int, head string) sample {
		return sample{bitmap(head), Plan{api.BMP, width, height, bits, colors, 0}, 2}
	}
	return []sample{
		of(3, 2, 24, 0, long(40, 3, 2, 24, 0, 0)),
		of(3, 2, 24, 0, long(40, 3, -2, 24, 0, 256)),
		of(16384, 16384, 1, 2, long(40, 16384, -16384, 1, 0, 0)),
		of(1, 1, 1, 1, long(52, 1, 1, 1, 0, 1)),
		of(5, 6, 4, 16, long(108, 5, 6, 4, 2, 16)),
		of(5, 6, 4, 9, long(124, 5, 6, 4, 0, 9)),
		of(5, 6, 8, 256, long(40, 5, 6, 8, 1, 0)),
		of(5, 6, 8, 255, long(56, 5, 6, 8, 0, 255)),
		of(5, 6, 16, 0, long(40, 5, 6, 16, 0, 7)),
		of(5, 6, 32, 0, long(40, 5, 6, 32, 0, 0)),
		of(5, 6, 32, 0, long(40, 5, 6, 32, 3, 0)+le32(0xff, 0xff00, 0xff0000)),
		of(300, 2, 1, 2, short(300, 2, 1)),
		of(300, 2, 4, 16, short(300, 2, 4)),
		of(300, 2, 8, 256, short(300, 2, 8)),
		of(300, 2, 24, 0, short(300, 2, 24)),
	}
}

// icons are icons and cursors, with windows of heads alone.
func icons() []sample {
	of := func(kind, width, height, bits, colors int, head string) sample {
		return sample{single(kind, width, height, head), Plan{api.ICO, width, height, bits, colors, 0}, 10}
	}
	two := le16(0, 1, 2) + entry(2, 2, 40, 38) + entry(16, 3, 44, 78)
	return []sample{
		of(1, 1, 1, 1, 2, long(40, 1, 2, 1, 0, 0)),
		of(2, 7, 5, 4, 3, long(40, 7, 10, 4, 0, 3)),
		of(1, 7, 5, 8, 256, long(40, 7, 10, 8, 0, 256)),
		of(2, 256, 256, 24, 0, long(40, 256, 512, 24, 0, 9)),
		of(1, 7, 5, 16, 0, long(40, 7, 10, 16, 0, 0)),
		of(1, 7, 5, 32, 0, long(40, 7, 10, 32, 0, 0)),
		{two + sized("", 40) + long(40, 16, 6, 8, 0, 200) + "more", Plan{api.ICO, 16, 3, 8, 200, 0}, 10},
	}
}

// netpbm are PNM files.
func netpbm() []sample {
	of := func(width, height, bits int, text string) sample {
		return sample{text, Plan{api.PNM, width, height, bits, 0, 0}, 3}
	}
	return []sample{
		of(2, 3, 8, "P5 2 3 255\n"),
		of(2, 3, 1, "P1 2 3"),
		of(2, 3, 8, "P2 2 3 2"),
		of(2, 3, 24, "P3 2 3 255"),
		of(9, 1, 1, "P4\n9 1\n"),
		of(2, 3, 8, "P5\t2 3 2 "),
		of(2, 3, 24, "P6\v2 3 200 "),
		of(2, 3, 16, "P2\f2 3 256"),
		of(2, 3, 16, "P5\r2 3 65535 "),
		of(2, 3, 48, "P3 2 3 65535"),
		of(2, 3, 48, "P6 2 3 256\n"),
		of(2, 3, 1, "P2 2 3 1"),
		of(2, 3, 1, "P5 2 3 1\n"),
		of(2, 3, 3, "P3 2 3 1"),
		of(2, 3, 3, "P6 2 3 1\n"),
		of(16384, 16384, 24, "P6#a remark\n#another\n 16384\n#9\n16384 #7\n 255\n"),
	}
}

// targas are TGA files.
func targas() []sample {
	of := func(width, height, bits, colors int, head string) sample {
		return sample{head, Plan{api.TGA, width, height, bits, colors, 0}, 18}
	}
	return []sample{
		of(3, 2, 24, 0, targa(0, 2, 0, 0, 3, 2, 24)),
		of(3, 2, 15, 0, targa(0, 10, 9, 9, 3, 2, 15)),
		of(3, 2, 16, 0, targa(1, 2, 9, 24, 3, 2, 16)),
		of(3, 2, 32, 0, targa(1, 10, 9, 15, 3, 2, 32)),
		of(3, 2, 8, 0, targa(0, 3, 0, 0, 3, 2, 8)),
		of(3, 2, 8, 0, targa(1, 11, 9, 16, 3, 2, 8)),
		of(3, 2, 8, 9, targa(1, 1, 9, 32, 3, 2, 8)),
		of(3, 2, 8, 1, targa(1, 9, 1, 15, 3, 2, 8)),
		of(16384, 16384, 8, 65535, targa(1, 9, 65535, 24, 16384, 16384, 8)),
	}
}

// others are files of the other formats.
func others() []sample {
	of := func(format, width, height, bits, colors, row, sign int, text string) sample {
		return sample{text, Plan{format, width, height, bits, colors, row}, sign}
	}
	end := "\x0c" + sized("", 768)
	return []sample{
		of(api.QOI, 3, 2, 32, 0, 0, 4, "qoif"+be32(3, 2)+"\x03\x00"),
		of(api.QOI, 16384, 16384, 32, 0, 0, 4, "qoif"+be32(16384, 16384)+"\x04\x01"),
		of(api.FF, 3, 2, 64, 0, 0, 8, "farbfeld"+be32(3, 2)),
		of(api.FF, 16384, 16384, 64, 0, 0, 8, "farbfeld"+be32(16384, 16384)),
		of(api.PCX, 3, 2, 24, 0, 12, 4, dots(0, 0, 3, 2, 8, 3, 4)),
		of(api.PCX, 3, 2, 8, 256, 6, 4, dots(9, 8, 3, 2, 8, 1, 6)+end),
		of(api.PCX, 9, 2, 1, 0, 2, 4, dots(0, 65534, 9, 2, 1, 1, 2)),
		of(api.PCX, 9, 2, 4, 0, 20, 4, dots(0, 0, 9, 2, 1, 4, 5)),
		of(api.PCX, 16384, 16384, 24, 0, 49161, 4, dots(49151, 49151, 16384, 16384, 8, 3, 16387)),
		of(api.SUN, 3, 2, 1, 0, 0, 4, rays(3, 2, 1, 0, 0, 0)),
		of(api.SUN, 3, 2, 1, 2, 0, 4, rays(3, 2, 1, 1, 1, 6)),
		of(api.SUN, 3, 2, 8, 256, 0, 4, rays(3, 2, 8, 2, 1, 768)),
		of(api.SUN, 3, 2, 24, 0, 0, 4, rays(3, 2, 24, 3, 0, 0)),
		of(api.SUN, 16384, 16384, 24, 1, 0, 4, rays(16384, 16384, 24, 2, 1, 3)),
		of(api.SUN, 3, 2, 32, 200, 0, 4, rays(3, 2, 32, 3, 1, 600)),
	}
}

func samples() []sample {
	return slices.Concat(bitmaps(), icons(), netpbm(), targas(), others())
}

// needMeant is the need of a plan that has one, by the chapter's words.
func needMeant(p Plan, bytes int) api.Budget {
	product := p.Width * p.Height
	return api.Budget{
		MaxWidth:  p.Width,
		MaxHeight: p.Height,
		MaxBytes:  product*4 + p.Colors*4 + p.Row,
		MaxWork:   (product*4+bytes)*8 + 1024,
	}
}

// expect holds a text's plan, or what is wrong with it, and its need.
func expect(t *testing.T, s string, p Plan, f api.Fault) {
	t.Helper()
	if got, g := Of(s); got != p || g != f {
		t.Errorf("%.60q: %+v, %+v, not %+v, %+v", s, got, g, p, f)
	}
	want := api.Budget{}
	if f == (api.Fault{}) {
		want = needMeant(p, len(s))
	}
	if got, g := Need(s); got != want || g != f {
		t.Errorf("%.60q: %+v, %+v, not %+v, %+v", s, got, g, want, f)
	}
}

// P31.1: the chapter's example, and that of the whole.
func TestExample(t *testing.T) {
	const s = "P5 2 3 255\nABCDEF"
	expect(t, s, Plan{Format: api.PNM, Width: 2, Height: 3, Bits: 8}, api.Fault{})
	if g, f := Need(s); g != (api.Budget{MaxWidth: 2, MaxHeight: 3, MaxBytes: 24, MaxWork: 1352}) || f != (api.Fault{}) {
		t.Errorf("%+v, %+v", g, f)
	}
}

// P31.1: plans of all formats; what is behind the head changes nothing but the steps.
func TestPlans(t *testing.T) {
	for _, x := range samples() {
		expect(t, x.text, x.plan, api.Fault{})
		more := " more bytes"
		if x.plan.Format == api.PCX && x.plan.Colors > 0 {
			more = "\x0c" + sized("", 768) // a palette stands at the end of all
		}
		expect(t, x.text+more, x.plan, api.Fault{})
	}
}

// P31.1: files that are cut off anywhere: without a sign they are of no format; else they are Truncated.
func TestCutOff(t *testing.T) {
	for _, x := range samples() {
		for n := range len(x.text) {
			s, want := x.text[:n], fault(api.Truncated, x.plan.Format, n)
			switch x.plan.Format {
			case api.PNM:
				if p, f := Of(s); f.Kind == api.NoFault {
					want = api.Fault{} // a number that is cut off may be one, too
					expect(t, s, p, want)
					continue
				}
			case api.ICO:
				if d := 22 + 16*int(x.text[4]-1); n >= d {
					want = fault(api.Malformed, api.ICO, 18) // a window goes beyond the end
					if d > 22 && n >= 78 {
						want.At = 34
					}
				} else if d > 22 && n >= 22 && n < 38 {
					want = fault(api.Malformed, api.ICO, 18)
				}
			case api.PCX:
				if n >= 128+769 {
					want = fault(api.Malformed, api.PCX, n-769)
				}
			}
			if n < x.sign {
				want = unknown
			}
			expect(t, s, Plan{}, want)
		}
	}
}

// P31.1: a number of a PNM head that is cut off.
func TestCutNumber(t *testing.T) {
	for s, want := range map[string]api.Fault{
		"P":             unknown,
		"P5":            unknown,
		"P5 ":           fault(api.Truncated, api.PNM, 3),
		"P5 2":          fault(api.Truncated, api.PNM, 4),
		"P5 2 3":        fault(api.Truncated, api.PNM, 6),
		"P5 2 3 255":    fault(api.Truncated, api.PNM, 10),
		"P5 2 3 255x":   fault(api.Malformed, api.PNM, 10),
		"P5 0 3 255\n":  fault(api.Malformed, api.PNM, 3),
		"P5 2 16385 1 ": fault(api.Unsupported, api.PNM, 5),
		"P2 2 3 0":      fault(api.Malformed, api.PNM, 7),
		"P2 2 3 65536":  fault(api.Malformed, api.PNM, 7),
		"P7 2 3 255\n":  unknown,
		"P5x2 3 255\n":  unknown,
	} {
		expect(t, s, Plan{}, want)
	}
	expect(t, "P2 2 3 2", Plan{api.PNM, 2, 3, 8, 0, 0}, api.Fault{})
	expect(t, "P1 2 34", Plan{api.PNM, 2, 34, 1, 0, 0}, api.Fault{})
	expect(t, "P1 02 0000000000034", Plan{api.PNM, 2, 34, 1, 0, 0}, api.Fault{})
}

// P31.1: greatest samples about those that need more bits.
func TestSampleBits(t *testing.T) {
	for most, bits := range map[string]int{"1": 1, "2": 8, "15": 8, "254": 8, "255": 8, "256": 16, "257": 16, "65534": 16, "65535": 16} {
		expect(t, "P2 4 5 "+most, Plan{api.PNM, 4, 5, bits, 0, 0}, api.Fault{})
		expect(t, "P5 4 5 "+most+"\n", Plan{api.PNM, 4, 5, bits, 0, 0}, api.Fault{})
		expect(t, "P3 4 5 "+most, Plan{api.PNM, 4, 5, 3 * bits, 0, 0}, api.Fault{})
		expect(t, "P6 4 5 "+most+"\n", Plan{api.PNM, 4, 5, 3 * bits, 0, 0}, api.Fault{})
	}
}

// P31.1: bytes of no format, and what is wrong with heads: the first thing of several.
func TestFaults(t *testing.T) {
	icon := single(1, 1, 1, long(40, 1, 2, 1, 0, 0))
	mapped := dots(0, 0, 3, 2, 8, 1, 4) + "\x0c" + sized("", 768)
	for _, x := range []struct {
		text string
		want api.Fault
	}{
		{"", unknown},
		{"\x00", unknown},
		{" BM", unknown},
		{"GIF89a and more", unknown},
		{"\x89PNG\r\n\x1a\n", unknown},
		{sized("", 100), unknown},
		{bitmap(long(41, 1, 1, 24, 0, 0)), fault(api.Malformed, api.BMP, 14)},
		{bitmap(sized(le32(64), 64)), fault(api.Unsupported, api.BMP, 14)},
		{bitmap(long(40, 0, 0, 24, 0, 0)), fault(api.Malformed, api.BMP, 18)},
		{bitmap(long(40, 1, -16385, 24, 0, 0)), fault(api.Unsupported, api.BMP, 22)},
		{bitmap(long(40, 1, 1, 8, 0, 257)), fault(api.Malformed, api.BMP, 46)},
		{bitmap(long(40, 1, 1, 32, 3, 0) + le32(5, 0, 0)), fault(api.Malformed, api.BMP, 54)},
		{targa(1, 2, 0, 24, 1, 1, 24), fault(api.Malformed, api.TGA, 5)},
		{targa(0, 2, 0, 0, 16385, 1, 24), fault(api.Unsupported, api.TGA, 12)},
		{with(targa(0, 2, 0, 0, 1, 1, 24), 17, 0x40), fault(api.Unsupported, api.TGA, 17)},
		{with(targa(0, 2, 0, 0, 1, 1, 24), 17, 1), fault(api.Malformed, api.TGA, 17)},
		{targa(0, 1, 0, 0, 1, 1, 8), unknown},
		{with(icon, 18, 21), fault(api.Malformed, api.ICO, 18)},
		{with(icon, 22, 12), fault(api.Malformed, api.ICO, 28)}, // of the short head the width is 1, and the height 0
		{single(1, 1, 1, short(1, 2, 1)), fault(api.Unsupported, api.ICO, 22)},
		{single(1, 1, 1, long(52, 1, 2, 1, 0, 0)), fault(api.Unsupported, api.ICO, 22)},
		{single(1, 1, 1, long(40, 1, 2, 16, 3, 0)), fault(api.Truncated, api.ICO, 62)}, // its masks lack
		{single(1, 1, 1, long(40, 1, 2, 16, 3, 0)+le32(1, 2, 4)), fault(api.Unsupported, api.ICO, 38)},
		{single(2, 1, 1, long(40, 1, 2, 8, 1, 0)), fault(api.Unsupported, api.ICO, 38)},
		{with(icon, 38, 1), fault(api.Malformed, api.ICO, 38)},
		{with(icon, 26, 2), fault(api.Malformed, api.ICO, 26)},
		{with(icon, 30, 4), fault(api.Malformed, api.ICO, 30)},
		{with(icon, 30, 3), fault(api.Malformed, api.ICO, 30)},
		{single(1, 1, 1, long(40, 1, -2, 1, 0, 0)), fault(api.Malformed, api.ICO, 30)},
		{single(1, 1, 1, "\x89PNG\r\n\x1a\n"), fault(api.Unsupported, api.ICO, 22)},
		{"qoif" + be32(0, 0) + "\x00\x09", fault(api.Malformed, api.QOI, 4)},
		{"qoif" + be32(1, 16385) + "\x00\x09", fault(api.Unsupported, api.QOI, 8)},
		{"qoif" + be32(1, 1) + "\x05\x09", fault(api.Malformed, api.QOI, 12)},
		{"qoif" + be32(1, 1) + "\x03\x02", fault(api.Malformed, api.QOI, 13)},
		{"farbfeld" + be32(1<<31, 0), fault(api.Unsupported, api.FF, 8)},
		{"farbfeld" + be32(1, 0), fault(api.Malformed, api.FF, 12)},
		{with(dots(0, 0, 1, 1, 8, 3, 1), 8, 255), fault(api.Malformed, api.PCX, 66)},
		{with(dots(1, 0, 1, 1, 8, 3, 1), 8, 0), fault(api.Malformed, api.PCX, 8)},
		{dots(0, 0, 1, 1, 8, 4, 1), fault(api.Unsupported, api.PCX, 65)},
		{mapped[:200], fault(api.Truncated, api.PCX, 200)},
		{with(mapped, 128, 13), fault(api.Malformed, api.PCX, 128)},
		{mapped + "\x00", fault(api.Malformed, api.PCX, 129)},
		{rays(1, 1, 4, 4, 2, 9), fault(api.Unsupported, api.SUN, 12)},
		{rays(1, 1, 8, 4, 2, 9), fault(api.Unsupported, api.SUN, 20)},
		{rays(1, 1, 8, 3, 2, 9), fault(api.Unsupported, api.SUN, 24)},
		{rays(1, 1, 8, 3, 1, 771), fault(api.Malformed, api.SUN, 28)},
		{rays(1, 1, 8, 3, 0, 3), fault(api.Malformed, api.SUN, 28)},
	} {
		expect(t, x.text, Plan{}, x.want)
	}
}

// decoder is how a file is decoded by its layer.
type decoder func(s *src.Src) (*raster.Raster, api.Fault)

func decoders() map[int]decoder {
	return map[int]decoder{
		api.BMP: bmp.Decode,
		api.TGA: tga.Decode,
		api.PNM: pnm.Decode,
		api.ICO: ico.Decode,
		api.QOI: qoi.Decode,
		api.FF:  ff.Decode,
		api.PCX: pcx.Decode,
		api.SUN: sun.Decode,
	}
}

// decode is a text's raster by the layer of its format, with a ledger of a budget, or what is wrong.
func decode(t *testing.T, s string, g api.Budget) (*raster.Raster, api.Fault) {
	t.Helper()
	do := decoders()[sniff.Format(s)]
	if do == nil {
		return nil, unknown
	}
	x, e := src.New(ledger.New(g), s)
	if e != api.OK {
		t.Fatalf("no source: %d", e)
	}
	return do(x)
}

// held holds a text's plan against its decoder: where a head is wrong both tell the same, else the decoder gets to the sides; with its need nothing is Spent, with a byte less what is decoded is.
func held(t *testing.T, s string) (planned, decoded bool) {
	t.Helper()
	p, f := Of(s)
	// No sides are let, so that nothing behind the head is told.
	_, head := decode(t, s, api.Budget{MaxBytes: math.MaxInt, MaxWork: math.MaxInt})
	// Where a bitmap's pixels begin is asked behind its head, but isn't wrong with that.
	elsewhere := head.Format == api.BMP && (head == fault(api.Malformed, api.BMP, 10) || head.Kind == api.Truncated && f.Kind == api.NoFault)
	if f.Kind != api.NoFault && f != head || f.Kind == api.NoFault && head.Kind != api.Spent && !elsewhere {
		t.Errorf("%.60q: %+v, %+v, but the decoder tells %+v", s, p, f, head)
	}
	g, n := Need(s)
	if n != f || f.Kind != api.NoFault && (p != (Plan{}) || g != (api.Budget{})) {
		t.Errorf("%.60q: %+v, %+v, but %+v, %+v", s, p, f, g, n)
	}
	if f.Kind != api.NoFault {
		return false, false
	}
	if p.Format != sniff.Format(s) || g != p.Need(len(s)) || g != needMeant(p, len(s)) {
		t.Errorf("%.60q: %+v needs %+v", s, p, g)
	}
	if p.Width*p.Height > 1<<16 {
		return true, false
	}
	r, f := decode(t, s, g)
	if f.Kind == api.Spent || f.Kind == api.NoFault && (r.Width() != p.Width || r.Height() != p.Height) {
		t.Errorf("%.60q: %+v, but with %+v the decoder tells %+v", s, p, g, f)
	}
	if f.Kind != api.NoFault {
		return true, false
	}
	g.MaxBytes--
	if _, f := decode(t, s, g); f.Kind != api.Spent {
		t.Errorf("%.60q: with a byte less than %+v the decoder tells %+v", s, p, f)
	}
	return true, true
}

// files are the samples with bytes behind that make whole files of those that are small.
func files() (l []string) {
	m := api.Image{Width: 5, Height: 3}
	for i := range 4 * 15 {
		m.Pix = append(m.Pix, []byte{0, 0, 0, 255, 255, 255, 255, 255}[i%8])
	}
	add := func(s string, e api.Errno) {
		if e == api.OK {
			l = append(l, s)
		}
	}
	for _, n := range []int{1, 4, 8, 24, 32} {
		for which := range 4 {
			add(bmp.Write(m, bmp.Options{Depth: n, Packed: which == 1, Masked: which == 2, Top: which == 3}))
			add(sun.Write(m, sun.Options{Bits: n, Type: which}))
			add(pcx.Write(m, pcx.Options{Bits: n, Planes: which + 1}))
			add(tga.Write(m, tga.Options{Bits: n, Packed: which == 1, Name: "name"[which:]}))
		}
		add(ico.Write(m, ico.Options{Depth: n, Cursor: n == 8}))
		add(pnm.Write(m, n))
		add(pnm.Write(m, n+1))
	}
	add(qoi.Write(m))
	add(ff.Write(m))
	for _, x := range samples() {
		l = append(l, x.text, x.text+strings.Repeat("\x00", 2000))
	}
	return l
}

// P31.1: plans held against the decoders of the layers, of files that are whole, cut off, and changed in any byte.
func TestDecoders(t *testing.T) {
	planned, decoded := map[int]int{}, map[int]int{}
	count := func(s string) {
		p, d := held(t, s)
		if p {
			planned[sniff.Format(s)]++
		}
		if d {
			decoded[sniff.Format(s)]++
		}
	}
	for _, s := range files() {
		count(s)
		for n := 0; n < min(len(s), 1000); n += 1 + n/20 {
			count(s[:n])
		}
		b := []byte(s)
		for at := range min(len(s), 140) {
			was := b[at]
			for _, v := range []byte{0, 1, 2, 3, 8, 24, 32, 40, 0x7f, 0xff, was + 1, was - 1, was ^ 0x80} {
				b[at] = v
				count(string(b))
			}
			b[at] = was
		}
	}
	for format := api.BMP; format <= api.SUN; format++ {
		if planned[format] == 0 || decoded[format] == 0 {
			t.Errorf("of %d %d were planned, %d decoded", format, planned[format], decoded[format])
		}
	}
}

// P31.1: the same of files with several bytes changed.
func TestAny(t *testing.T) {
	next := random(1)
	l := files()
	for range 20000 {
		b := []byte(l[next(len(l))])
		for range next(4) {
			v := next(256)
			if next(2) == 0 {
				v = []int{0, 1, 2, 3, 4, 8, 16, 24, 32, 40, 56, 255}[next(12)]
			}
			b[next(min(len(b), 60))] = byte(v)
		}
		held(t, string(b))
	}
}

// P31.1: a head whose reading takes many steps.
func TestGreat(t *testing.T) {
	n := 1 << 20
	expect(t, "P1#"+strings.Repeat("#", n)+"\n"+strings.Repeat(" ", n)+"7 "+strings.Repeat("0", n)+"9", Plan{api.PNM, 7, 9, 1, 0, 0}, api.Fault{})
	window := long(40, 256, 512, 4, 0, 5)
	end := 6 + 16*65535
	expect(t, le16(0, 1, 65535)+strings.Repeat(entry(2, 2, 0, end), 65534)+entry(0, 0, 40, end)+window, Plan{api.ICO, 256, 256, 4, 5, 0}, api.Fault{})
}

// edges are numbers about the ends of those that a plan may have.
func edges() []int {
	const far = 1 << 40
	return []int{math.MinInt, -far, -16384, -1, 0, 1, 2, 255, 16383, 16384, 16385, far - 1, far, far + 1, 1 << 62, math.MaxInt}
}

// isBetween tells whether a number is from one to another.
func isBetween(v, least, most int) bool { return v >= least && v <= most }

// expectNeed holds the need of any plan against the chapter's words, reckoned by numbers that don't run over.
func expectNeed(t *testing.T, p Plan, bytes int) {
	t.Helper()
	want := api.Budget{}
	if isBetween(p.Width, 1, 16384) && isBetween(p.Height, 1, 16384) && isBetween(p.Colors, 0, 1<<40) && isBetween(p.Row, 0, 1<<40) && isBetween(bytes, 0, 1<<40) {
		product := new(big.Int).Mul(big.NewInt(int64(p.Width)), big.NewInt(int64(p.Height)))
		four := product.Lsh(product, 2)
		kept := new(big.Int).Add(four, new(big.Int).Lsh(big.NewInt(int64(p.Colors)), 2))
		kept.Add(kept, big.NewInt(int64(p.Row)))
		work := new(big.Int).Add(four, big.NewInt(int64(bytes)))
		work.Add(work.Lsh(work, 3), big.NewInt(1024))
		want = api.Budget{MaxWidth: p.Width, MaxHeight: p.Height, MaxBytes: int(kept.Int64()), MaxWork: int(work.Int64())}
	}
	if got := p.Need(bytes); got != want {
		t.Errorf("%+v of %d bytes: %+v, not %+v", p, bytes, got, want)
	}
}

// P31.1: needs of plans whose numbers are any, all at once.
func TestNeed(t *testing.T) {
	for _, width := range edges() {
		for _, height := range edges() {
			for _, n := range edges() {
				expectNeed(t, Plan{Width: width, Height: height, Colors: n, Row: 3}, 5)
				expectNeed(t, Plan{Width: width, Height: height, Colors: 7, Row: n}, 5)
				expectNeed(t, Plan{Width: width, Height: height, Colors: 7, Row: 3}, n)
			}
		}
	}
	for _, colors := range edges() {
		for _, row := range edges() {
			for _, n := range edges() {
				expectNeed(t, Plan{Width: 16384, Height: 1, Colors: colors, Row: row}, n)
				expectNeed(t, Plan{Width: 16384, Height: 16384, Colors: colors, Row: row}, n)
			}
		}
	}
	// The format and the bits are of no account.
	for _, n := range edges() {
		expectNeed(t, Plan{Format: n, Width: 3, Height: 2, Bits: 5, Colors: 1, Row: 1}, 9)
		expectNeed(t, Plan{Format: api.BMP, Width: 3, Height: 2, Bits: n, Colors: 1, Row: 1}, 9)
	}
}

// P31.1: needs by hand.
func TestNeedByHand(t *testing.T) {
	for _, x := range []struct {
		plan  Plan
		bytes int
		want  api.Budget
	}{
		{Plan{}, 0, api.Budget{}},
		{Plan{Width: 1, Height: 1}, 0, api.Budget{MaxWidth: 1, MaxHeight: 1, MaxBytes: 4, MaxWork: 1056}},
		{Plan{Format: api.PCX, Width: 3, Height: 2, Bits: 8, Colors: 256, Row: 6}, 1000, api.Budget{MaxWidth: 3, MaxHeight: 2, MaxBytes: 1054, MaxWork: 9216}},
		{Plan{Width: 16384, Height: 16384, Colors: 1 << 40, Row: 1 << 40}, 1 << 40, api.Budget{MaxWidth: 16384, MaxHeight: 16384, MaxBytes: 5498631880704, MaxWork: 8804682957824}},
		{Plan{Width: 1, Height: 1}, -1, api.Budget{}},
		{Plan{Width: 1, Height: 1}, 1<<40 + 1, api.Budget{}},
		{Plan{Width: 16385, Height: 1}, 1, api.Budget{}},
		{Plan{Width: 1, Height: 0}, 1, api.Budget{}},
	} {
		if got := x.plan.Need(x.bytes); got != x.want {
			t.Errorf("%+v of %d bytes: %+v, not %+v", x.plan, x.bytes, got, x.want)
		}
	}
}

// fields are a budget's numbers.
func fields(l [4]int) api.Budget {
	return api.Budget{MaxWidth: l[0], MaxHeight: l[1], MaxBytes: l[2], MaxWork: l[3]}
}

// P31.1: budgets held against each other: each number about each other one, alone and among others.
func TestWithin(t *testing.T) {
	numbers := []int{math.MinInt, -2, -1, 0, 1, 2, math.MaxInt - 1, math.MaxInt}
	for which := range 4 {
		for _, a := range numbers {
			for _, b := range numbers {
				for _, rest := range [][2]int{{0, 0}, {5, 5}, {-7, 0}, {0, -7}, {-7, -8}, {3, 4}, {4, 3}} {
					x, y := [4]int{rest[0], rest[0], rest[0], rest[0]}, [4]int{rest[1], rest[1], rest[1], rest[1]}
					x[which], y[which] = a, b
					want := (a <= b || a <= 0) && (rest[0] <= rest[1] || rest[0] <= 0)
					if got := Within(fields(x), fields(y)); got != want {
						t.Errorf("%d within %d: %t", x, y, got)
					}
				}
			}
		}
	}
}

// P31.1: all budgets of a few numbers.
func TestWithinAll(t *testing.T) {
	few := []int{-1, 0, 1}
	all := [][4]int{}
	for _, a := range few {
		for _, b := range few {
			for _, c := range few {
				for _, d := range few {
					all = append(all, [4]int{a, b, c, d})
				}
			}
		}
	}
	for _, a := range all {
		for _, b := range all {
			want := true
			for i := range a {
				want = want && (a[i] < 1 || b[i] == 1)
			}
			if got := Within(fields(a), fields(b)); got != want {
				t.Errorf("%d within %d: %t", a, b, got)
			}
		}
	}
}
