package sun

import (
	"strings"

	"tintype/api"
	"tintype/num"
	"tintype/raster"
	"tintype/signhead"
	"tintype/solidpix"
	"tintype/stretch"
)

const (
	// most is how many times a packet's byte stands at most.
	most = 256
	// alike is how many bytes side by side a packet is shorter than.
	alike = 3
	// depth is how many bytes a pixel of an image has: R, G, B, A.
	depth = 4
)

// Options are how a file is written.
type Options struct{ Bits, Type int }

// right tells whether there are such files.
func (o Options) right() bool {
	return isBits(o.Bits) && o.Type >= 0 && o.Type <= lastType
}

// Pack is the packets of bytes.
func Pack(s string) string {
	var b strings.Builder
	for n, v := range stretch.All(s, most) {
		switch {
		case n >= alike || n > 1 && v == escape:
			b.Write([]byte{escape, byte(n - 1), v})
		case v == escape:
			b.Write([]byte{escape, 0})
		default:
			b.WriteString(strings.Repeat(string([]byte{v}), n))
		}
	}
	return b.String()
}

// Write is an image as a file.
func Write(m api.Image, o Options) (string, api.Errno) {
	if !o.right() {
		return "", api.ErrArg
	}
	if !raster.Right(m) {
		return "", api.ErrSize
	}
	p := picture{image: m, options: o}
	if !p.look() {
		return "", api.ErrForm
	}
	b := p.rows()
	kind := noMap
	if len(p.colors) > 0 {
		kind = colorMap
	}
	head := signhead.Bytes(sign, m.Width, m.Height, o.Bits, len(b), o.Type, kind, channels*len(p.colors))
	return head + p.colorMap() + b, api.OK
}

// picture is an image that is written.
type picture struct {
	image   api.Image
	options Options
	numbers []byte      // those of the pixels, where they are told by them
	colors  []api.Color // what they are numbers of, where the file tells it
}

// look goes over all pixels, and numbers their colours, where they are to be numbers; false: they can't be written so.
func (p *picture) look() (ok bool) {
	switch p.options.Bits {
	case 1:
		p.numbers, _, ok = solidpix.Number(p.image, []api.Color{ink(0), ink(1)}, 2)
	case byteBits:
		p.numbers, p.colors, ok = solidpix.Number(p.image, nil, api.MaxColors)
	default:
		ok = solidpix.All(p.image)
	}
	return ok
}

// colorMap is the bytes of the colours that are numbered: all R, then all G, then all B.
func (p *picture) colorMap() string {
	n := len(p.colors)
	b := make([]byte, channels*n)
	for i, c := range p.colors {
		b[i], b[n+i], b[2*n+i] = c.R, c.G, c.B
	}
	return string(b)
}

// rows are the bytes of all rows, as they stand in the file.
func (p *picture) rows() string {
	size, _ := num.Stride(p.image.Width, p.options.Bits, rowBits)
	var b strings.Builder
	for y := range p.image.Height {
		b.Write(p.row(y, size))
	}
	if p.options.Type == packed {
		return Pack(b.String())
	}
	return b.String()
}

// row is a row's bytes, so many.
func (p *picture) row(y, size int) []byte {
	w := p.image.Width
	switch p.options.Bits {
	case 1:
		return solidpix.Bits(p.numbers[y*w:(y+1)*w], 0, size)
	case byteBits:
		b := make([]byte, size)
		copy(b, p.numbers[y*w:(y+1)*w])
		return b
	}
	return p.colorRow(p.image.Pix[depth*y*w:depth*(y+1)*w], size)
}

// colorRow is the bytes of a row's pixels, each told by its channels, behind a 0 of 32 bits.
func (p *picture) colorRow(pix []byte, size int) []byte {
	b := make([]byte, size)
	n := p.options.Bits / byteBits
	for x := range len(pix) / depth {
		c := [channels]byte(pix[depth*x:])
		if p.options.Type != redFirst {
			c[0], c[2] = c[2], c[0]
		}
		copy(b[n*(x+1)-channels:], c[:])
	}
	return b
}
