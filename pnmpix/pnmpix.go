// Package pnmpix is what layers 13 and 14 have in common: PNM pixels, whether they are text or bytes; see shared/doc/13-pnmtext.md and shared/doc/14-pnmraw.md.
package pnmpix

import (
	"strconv"

	"tintype/api"
	"tintype/pnmhead"
	"tintype/raster"
	"tintype/src"
)

const (
	// depth is how many bytes a pixel of an image has: R, G, B, A.
	depth = 4
	// solid is the alpha of all PNM pixels, and the greatest sample that is written.
	solid = 255
)

// Next reads the next pixel of a source; x is its column.
type Next func(x int) (api.Color, api.Fault)

// Fill makes the pixels of a raster with a head's sides those that next reads of a source, row by row from the top.
func Fill(s *src.Src, h pnmhead.Head, r *raster.Raster, next Next) api.Fault {
	for y := range h.Height {
		for x := range h.Width {
			c, f := next(x)
			if f.Kind != api.NoFault {
				return f
			}
			// The raster's ledger may be another one than the source's, so the source isn't asked why.
			if !r.Set(x, y, c) {
				return fault(api.Spent, s.At())
			}
		}
	}
	return api.Fault{}
}

// Malformed is what is wrong with a sample at a place.
func Malformed(at int) api.Fault { return fault(api.Malformed, at) }

func fault(kind, at int) api.Fault {
	return api.Fault{Kind: kind, Format: api.PNM, At: at}
}

// Grey is the colour of one sample.
func Grey(v uint8) api.Color { return Color(v, v, v) }

// Color is that of three samples.
func Color(r, g, b uint8) api.Color { return api.Color{R: r, G: g, B: b, A: solid} }

// Ink is the colour of a bit: 1 is black, 0 white.
func Ink(bit int) api.Color {
	if bit == 1 {
		return Grey(0)
	}
	return Grey(solid)
}

// Bit is that of black or white.
func Bit(c api.Color) uint8 {
	if c == Grey(0) {
		return 1
	}
	return 0
}

// Bitmap tells whether a kind's pixels are bits.
func Bitmap(kind int) bool { return kind == 1 || kind == 4 }

// Check tells what keeps an image from being a file of a kind.
func Check(m api.Image, kind int) api.Errno {
	if !raster.Right(m) {
		return api.ErrSize
	}
	for i := 0; i < len(m.Pix); i += depth {
		if !fits(api.Color{R: m.Pix[i], G: m.Pix[i+1], B: m.Pix[i+2], A: m.Pix[i+3]}, kind) {
			return api.ErrForm
		}
	}
	return api.OK
}

// fits tells whether a colour is one of a kind's.
func fits(c api.Color, kind int) bool {
	switch {
	case Bitmap(kind):
		return c == Ink(0) || c == Ink(1)
	case pnmhead.Colors(kind):
		return c.A == solid
	}
	return c == Grey(c.R)
}

// Begin is what the file of an image begins with, up to its pixels.
func Begin(m api.Image, kind int) string {
	text := "P" + strconv.Itoa(kind) + "\n" + strconv.Itoa(m.Width) + " " + strconv.Itoa(m.Height) + "\n"
	if Bitmap(kind) {
		return text
	}
	return text + strconv.Itoa(solid) + "\n"
}
