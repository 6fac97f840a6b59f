// Package solidpix is what formats without alpha have in common: colours that are solid, numbers of those of an image, and bits of these numbers; see shared/doc/28-pcx.md and shared/doc/29-sun.md.
package solidpix

import "tintype/api"

const (
	// depth is how many bytes a pixel of an image has: R, G, B, A.
	depth = 4
	// solid is the alpha of all pixels.
	solid = 255
	// byteBits is how many bits a byte has.
	byteBits = 8
)

// Color is that of three channels.
func Color(r, g, b uint8) api.Color { return api.Color{R: r, G: g, B: b, A: solid} }

// Grey is the colour whose three channels are one.
func Grey(v uint8) api.Color { return Color(v, v, v) }

// All tells whether all pixels of an image are solid.
func All(m api.Image) bool {
	for i := range len(m.Pix) / depth {
		if pixel(m, i).A != solid {
			return false
		}
	}
	return true
}

// pixel is number i of an image's.
func pixel(m api.Image, i int) api.Color {
	p := m.Pix[depth*i:]
	return api.Color{R: p[0], G: p[1], B: p[2], A: p[3]}
}

// Number is the numbers of all pixels of an image among colours, and these: first those that are given, behind them the image's others, in the order in which they come; false: a pixel isn't solid, or there are more colours than most, which is 256 at most.
func Number(m api.Image, given []api.Color, most int) ([]byte, []api.Color, bool) {
	var colors []api.Color
	numbers := map[api.Color]int{}
	number := func(c api.Color) int {
		n, ok := numbers[c]
		if !ok {
			n = len(colors)
			numbers[c] = n
			colors = append(colors, c)
		}
		return n
	}
	for _, c := range given {
		number(c)
	}
	l := make([]byte, len(m.Pix)/depth)
	for i := range l {
		c := pixel(m, i)
		n := number(c)
		if c.A != solid || n >= most {
			return nil, nil, false
		}
		l[i] = byte(n)
	}
	return l, colors, true
}

// Bits are those that stand at one place, counted from the lowest on, in the numbers of a row, the highest bit of a byte first, in so many bytes.
func Bits(row []byte, place, size int) []byte {
	b := make([]byte, size)
	for x, n := range row {
		b[x/byteBits] |= n >> place & 1 << shift(x)
	}
	return b
}

// Bit is that of column x in the byte of a row in which it stands.
func Bit(b byte, x int) int { return int(b >> shift(x) & 1) }

// shift is how many bits of its byte are below the bit of column x.
func shift(x int) int { return byteBits - 1 - x%byteBits }
