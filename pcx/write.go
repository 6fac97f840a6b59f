package pcx

import (
	"strings"

	"tintype/api"
	"tintype/num"
	"tintype/raster"
	"tintype/solidpix"
	"tintype/stretch"
)

const (
	// version is that of all files that are written.
	version = 5
	// lineBits is what a plane's row is filled up to a multiple of: an even count of bytes.
	lineBits = 2 * byteBits
	// depth is how many bytes a pixel of an image has: R, G, B, A.
	depth = 4
)

// Options are how a file is written.
type Options struct{ Bits, Planes int }

// Pack is the packets of a row.
func Pack(row string) string {
	var b strings.Builder
	for n, v := range stretch.All(row, most) {
		if n > 1 || v >= counted {
			b.WriteByte(byte(counted | n))
		}
		b.WriteByte(v)
	}
	return b.String()
}

// Write is an image as a file.
func Write(m api.Image, o Options) (string, api.Errno) {
	if !isPair(o.Bits, o.Planes) {
		return "", api.ErrArg
	}
	if !raster.Right(m) {
		return "", api.ErrSize
	}
	p := picture{image: m, options: o}
	if !p.look() {
		return "", api.ErrForm
	}
	p.line, _ = num.Stride(m.Width, o.Bits, lineBits)
	var text strings.Builder
	text.WriteString(p.head())
	for y := range m.Height {
		text.WriteString(Pack(p.row(y)))
	}
	text.WriteString(p.end())
	return text.String(), api.OK
}

// picture is an image that is written.
type picture struct {
	image   api.Image
	options Options
	line    int         // how many bytes a plane's row has
	numbers []byte      // those of the pixels, where they are told by them
	colors  []api.Color // what they are numbers of, where the file tells it
}

// look goes over all pixels, and numbers their colours, where they are to be numbers; false: they can't be written so.
func (p *picture) look() (ok bool) {
	switch p.options {
	case Options{byteBits, 1}:
		p.numbers, p.colors, ok = solidpix.Number(p.image, nil, api.MaxColors)
	case Options{1, 4}:
		p.numbers, p.colors, ok = solidpix.Number(p.image, nil, headEntries)
	case Options{1, 1}:
		p.numbers, _, ok = solidpix.Number(p.image, []api.Color{black(), white()}, 2)
	default:
		ok = solidpix.All(p.image)
	}
	return ok
}

// head is the bytes of a head.
func (p *picture) head() string {
	b := make([]byte, headBytes)
	b[atManufacturer], b[atVersion], b[atPackets] = manufacturer, version, packets
	b[atBits], b[atPlanes] = byte(p.options.Bits), byte(p.options.Planes)
	put(b[atRight:], p.image.Width-1)
	put(b[atBottom:], p.image.Height-1)
	put(b[atLine:], p.line)
	if p.options.Bits == 1 {
		copy(b[atEntries:], entries(p.colors))
	}
	return string(b)
}

// put makes the first two of bytes a number, the lowest first.
func put(b []byte, v int) { b[0], b[1] = byte(v), byte(v>>byteBits) }

// entries are the bytes of colours.
func entries(l []api.Color) string {
	var b strings.Builder
	for _, c := range l {
		b.Write([]byte{c.R, c.G, c.B})
	}
	return b.String()
}

// end is what stands behind the rows.
func (p *picture) end() string {
	if p.options != (Options{byteBits, 1}) {
		return ""
	}
	b := make([]byte, endBytes)
	b[0] = mark
	copy(b[1:], entries(p.colors))
	return string(b)
}

// row is the bytes of one, of all planes.
func (p *picture) row(y int) string {
	var b strings.Builder
	for plane := range p.options.Planes {
		b.Write(p.plane(y, plane))
	}
	return b.String()
}

// plane is a plane's row.
func (p *picture) plane(y, plane int) []byte {
	w := p.image.Width
	if p.options.Bits == 1 {
		return solidpix.Bits(p.numbers[y*w:(y+1)*w], plane, p.line)
	}
	b := make([]byte, p.line)
	if p.options.Planes == 1 {
		copy(b, p.numbers[y*w:(y+1)*w])
		return b
	}
	for x := range w {
		b[x] = p.image.Pix[depth*(y*w+x)+plane]
	}
	return b
}
