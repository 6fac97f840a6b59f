package bmp

import (
	"strings"

	"tintype/api"
	"tintype/dibrle"
	"tintype/dibrow"
	"tintype/raster"
)

const (
	// solid is the alpha of what isn't clear at all.
	solid = 255
	// planes is how many of them all bitmaps have.
	planes = 1
	// short is how many bytes a head has, long one in which masks stand, that of A among them.
	short = 40
	long  = 56
)

// picture is an image that is written.
type picture struct {
	image   api.Image
	options Options
	colors  []api.Color // where pixels are numbers, in the order in which they come
	numbers map[api.Color]int
}

// look goes over all pixels, and numbers their colours, where they are to be numbers; false: they can't be written so.
func (p *picture) look() bool {
	p.numbers = map[api.Color]int{}
	for y := range p.image.Height {
		for x := range p.image.Width {
			c, _ := raster.Pixel(p.image, x, y)
			if c.A != solid && !p.options.Masked || !p.count(c) {
				return false
			}
		}
	}
	return true
}

// count numbers a colour, if it is a new one that is to be a number; false: there are too many.
func (p *picture) count(c api.Color) bool {
	if p.options.Depth > numbered {
		return true
	}
	if _, ok := p.numbers[c]; ok {
		return true
	}
	if len(p.colors) == 1<<p.options.Depth {
		return false
	}
	p.numbers[c] = len(p.colors)
	p.colors = append(p.colors, c)
	return true
}

// head is the bytes of the bitmap's head.
func (p *picture) head() string {
	size, height := short, p.image.Height
	if p.options.Masked {
		size = long
	}
	if p.options.Top {
		height = -height
	}
	// Those that aren't looked at are 0.
	b := words(4, size, p.image.Width, height) + words(2, planes, p.options.Depth) +
		words(4, p.options.method(), 0, 0, 0, len(p.colors), 0)
	if p.options.Masked {
		b += words(4, 0xff0000, 0xff00, 0xff, 0xff000000)
	}
	return b
}

// table is the bytes of the colours that are numbered.
func (p *picture) table() string {
	var b strings.Builder
	for _, c := range p.colors {
		b.WriteString(string([]byte{c.B, c.G, c.R, 0}))
	}
	return b.String()
}

// body is the bytes of all pixels.
func (p *picture) body() string {
	if p.options.Packed {
		b, _ := dibrle.Pack(p.rows(), p.image.Width, p.options.Depth)
		return b
	}
	var b strings.Builder
	for i := range p.image.Height {
		row, _ := dibrow.Pack(p.row(i), p.options.Depth)
		b.WriteString(row)
	}
	return b.String()
}

// rows are the numbers of all rows, one behind the other, as the file has them.
func (p *picture) rows() []int {
	l := make([]int, 0, p.image.Width*p.image.Height)
	for i := range p.image.Height {
		l = append(l, p.row(i)...)
	}
	return l
}

// row is the numbers of the row that is number i in the file.
func (p *picture) row(i int) []int {
	y := i
	if !p.options.Top {
		y = p.image.Height - 1 - i
	}
	l := make([]int, p.image.Width)
	for x := range l {
		c, _ := raster.Pixel(p.image, x, y)
		l[x] = p.number(c)
	}
	return l
}

// number is that of a pixel, as the file has it.
func (p *picture) number(c api.Color) int {
	v := int(c.R)<<16 | int(c.G)<<8 | int(c.B)
	switch {
	case p.options.Depth <= numbered:
		return p.numbers[c]
	case p.options.Depth == 24:
		return v
	}
	// What has no masks is solid, which is written, too.
	return v | int(c.A)<<24
}
