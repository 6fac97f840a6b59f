package qoi

import (
	"strings"

	"tintype/api"
	"tintype/raster"
	"tintype/signhead"
)

const (
	// depth is how many bytes a pixel of an image has: R, G, B, A.
	depth = 4
	// most is how many times a step tells the last pixel at most: with the numbers beyond it steps of whole channels begin.
	most = 62
	// channels is the number of them that heads tell which are written.
	channels = "\x04\x00"
)

// Write is an image as a file.
func Write(m api.Image) (string, api.Errno) {
	if !raster.Right(m) {
		return "", api.ErrSize
	}
	w := writer{memory: newMemory()}
	w.text.WriteString(signhead.Bytes(sign, m.Width, m.Height) + channels)
	for pix := m.Pix; len(pix) > 0; {
		pix = pix[depth*w.put(pix):]
	}
	w.text.WriteString(end)
	return w.text.String(), api.OK
}

// writer is what was written.
type writer struct {
	memory
	text strings.Builder
}

// put writes the step of the next pixels, and tells how many it tells.
func (w *writer) put(pix []byte) int {
	c, n := first(pix), 1
	if c == w.last {
		n = alike(pix)
		w.step(againStep, n-1)
	} else {
		w.one(c)
	}
	w.keep(c)
	return n
}

// first is the first one of pixels.
func first(pix []byte) api.Color {
	return api.Color{R: pix[0], G: pix[1], B: pix[2], A: pix[3]}
}

// alike is how many pixels that a step may tell are the first one, side by side.
func alike(pix []byte) int {
	n := 1
	for n < most && depth*n < len(pix) && first(pix[depth*n:]) == first(pix) {
		n++
	}
	return n
}

// one writes the step of a pixel that isn't the last one.
func (w *writer) one(c api.Color) {
	if w.seen[Place(c)] == c {
		w.step(seenStep, Place(c))
		return
	}
	if c.A != w.last.A {
		w.text.Write([]byte{fourStep, c.R, c.G, c.B, c.A})
		return
	}
	// What is greater than the greatest difference, or less than the least one, goes round.
	r, g, b := int8(c.R-w.last.R), int8(c.G-w.last.G), int8(c.B-w.last.B)
	rg, bg := r-g, b-g
	switch {
	case within(r, nearZero) && within(g, nearZero) && within(b, nearZero):
		w.step(nearStep, int(r+nearZero)<<4|int(g+nearZero)<<2|int(b+nearZero))
	case within(g, farZero) && within(rg, crossZero) && within(bg, crossZero):
		w.step(farStep, int(g)+farZero)
		w.text.WriteByte(byte(rg+crossZero)<<4 | byte(bg+crossZero))
	default:
		w.text.Write([]byte{threeStep, c.R, c.G, c.B})
	}
}

// within tells whether a difference is from zero below 0 up to, but without, zero above it.
func within(d, zero int8) bool { return -zero <= d && d < zero }

// step writes the first byte of one by its highest two bits and its number.
func (w *writer) step(kind, n int) { w.text.WriteByte(byte(kind<<shift | n)) }
