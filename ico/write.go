package ico

import (
	"strings"

	"tintype/api"
	"tintype/dibhead"
	"tintype/dibrow"
	"tintype/icodir"
	"tintype/mask"
	"tintype/raster"
)

const (
	// mostSide is the greatest side of an entry, mostNumber the greatest of its two numbers.
	mostSide   = 256
	mostNumber = 1<<16 - 1
	// planes is how many of them all icons have.
	planes = 1
	// behind is where the directory of one entry ends.
	behind = 6 + 16
	// numbered is how many bits a pixel has at most that is the number of an entry.
	numbered = 8
)

// Options are how a file is written.
type Options struct {
	Depth  int
	Cursor bool
	A, B   int
}

// right tells whether there are such files.
func (o Options) right() bool {
	switch o.Depth {
	case 1, 4, 8, 24, 32:
		return isNumber(o.A) && isNumber(o.B)
	}
	return false
}

// isNumber tells whether an entry may have such a number.
func isNumber(v int) bool { return v >= 0 && v <= mostNumber }

// Write is an image as a file.
func Write(m api.Image, o Options) (string, api.Errno) {
	if !o.right() {
		return "", api.ErrArg
	}
	if !raster.Right(m) || m.Width > mostSide || m.Height > mostSide {
		return "", api.ErrSize
	}
	p := picture{image: m, options: o}
	if !p.look() {
		return "", api.ErrForm
	}
	b := p.head() + p.table() + p.rows(o.Depth, p.number) + p.rows(1, masked)
	return p.directory(len(b)) + b, api.OK
}

// picture is an image that is written.
type picture struct {
	image   api.Image
	options Options
	colors  []api.Color // where pixels are numbers, in the order in which they come
	numbers map[api.Color]int
}

// look goes over all pixels, and numbers their colours, where they are to be numbers; false: they can't be written so.
func (p *picture) look() bool {
	p.numbers = map[api.Color]int{}
	for y := range p.image.Height {
		for x := range p.image.Width {
			c, _ := raster.Pixel(p.image, x, y)
			if !p.fits(c) || !p.count(bare(c)) {
				return false
			}
		}
	}
	return true
}

// fits tells whether a pixel's alpha can be written.
func (p *picture) fits(c api.Color) bool {
	return c.A == solid || c.A == none || p.options.Depth == withAlpha
}

// bare is a colour without its alpha: the mask has that.
func bare(c api.Color) api.Color { return api.Color{R: c.R, G: c.G, B: c.B} }

// count numbers a colour, if it is a new one that is to be a number; false: there are too many.
func (p *picture) count(c api.Color) bool {
	if p.options.Depth > numbered {
		return true
	}
	if _, ok := p.numbers[c]; ok {
		return true
	}
	if len(p.colors) == 1<<p.options.Depth {
		return false
	}
	p.numbers[c] = len(p.colors)
	p.colors = append(p.colors, c)
	return true
}

// directory is the bytes of one whose only entry's window has so many bytes.
func (p *picture) directory(size int) string {
	e := icodir.Entry{
		Width:  p.image.Width,
		Height: p.image.Height,
		A:      planes,
		B:      p.options.Depth,
		Size:   size,
		Place:  behind,
	}
	if p.options.Cursor {
		e.A, e.B = p.options.A, p.options.B
	}
	b, _ := icodir.Bytes(p.options.Cursor, []icodir.Entry{e})
	return b
}

// head is the bytes of the bitmap's head: its height is that of the colours and of the mask.
func (p *picture) head() string {
	set, _ := mask.Common(p.options.Depth) // of other bits there are none, and the set is zero
	b, _ := dibhead.Bytes(dibhead.Head{
		Size:   headBytes,
		Width:  p.image.Width,
		Height: 2 * p.image.Height,
		Depth:  p.options.Depth,
		Colors: len(p.colors),
		Masks:  set,
	})
	return b
}

// table is the bytes of the colours that are numbered.
func (p *picture) table() string {
	var b strings.Builder
	for _, c := range p.colors {
		b.WriteString(string([]byte{c.B, c.G, c.R, 0}))
	}
	return b.String()
}

// rows are the bytes of all rows, from the last one up, of numbers of so many bits that pixels have.
func (p *picture) rows(depth int, number func(c api.Color) int) string {
	var b strings.Builder
	for i := range p.image.Height {
		l := make([]int, p.image.Width)
		for x := range l {
			c, _ := raster.Pixel(p.image, x, p.image.Height-1-i)
			l[x] = number(c)
		}
		row, _ := dibrow.Pack(l, depth)
		b.WriteString(row)
	}
	return b.String()
}

// number is that of a pixel, as its colours' rows have it.
func (p *picture) number(c api.Color) int {
	v := int(c.R)<<16 | int(c.G)<<8 | int(c.B)
	switch {
	case p.options.Depth <= numbered:
		return p.numbers[bare(c)]
	case p.options.Depth == withAlpha:
		return v | int(c.A)<<24
	}
	return v
}

// masked is a pixel's bit of the mask.
func masked(c api.Color) int {
	if c.A == none {
		return 1
	}
	return 0
}
