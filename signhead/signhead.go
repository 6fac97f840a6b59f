// Package signhead is what heads of several formats have in common: they begin with a sign, behind which the sides stand; see shared/doc/26-qoi.md, shared/doc/27-ff.md and shared/doc/29-sun.md.
package signhead

import (
	"tintype/api"
	"tintype/src"
)

// numberBytes is how many bytes a number has, the highest first.
const numberBytes = 4

// Read reads the head of so many bytes that stands next, and tells its sides and all its bytes; or what is wrong with it, up to the height.
func Read(s *src.Src, sign string, size, format int) (width, height int, bytes string, f api.Fault) {
	from := s.At()
	b, ok := s.Take(size)
	if !ok {
		return 0, 0, "", s.Fault(format)
	}
	if kind, at := wrong(b, sign); kind != api.NoFault {
		return 0, 0, "", api.Fault{Kind: kind, Format: format, At: from + at}
	}
	width, height = sides(b, sign)
	return width, height, b, api.Fault{}
}

// wrong is the kind of the first thing that is wrong with a head's bytes, and which byte it is; NoFault: nothing is.
func wrong(b, sign string) (kind, at int) {
	for i := range len(sign) {
		if b[i] != sign[i] {
			return api.Malformed, i
		}
	}
	width, height := sides(b, sign)
	if kind = side(width); kind != api.NoFault {
		return kind, len(sign)
	}
	if kind = side(height); kind != api.NoFault {
		return kind, len(sign) + numberBytes
	}
	return api.NoFault, 0
}

// sides are those that a head's bytes tell, whatever they are.
func sides(b, sign string) (width, height int) {
	b = b[len(sign):]
	return Number(b), Number(b[numberBytes:])
}

// side is the kind of what is wrong with one.
func side(n int) int {
	switch {
	case n == 0:
		return api.Malformed
	case n > api.MaxSide:
		return api.Unsupported
	}
	return api.NoFault
}

// Number is the one that bytes begin with.
func Number(b string) int {
	v := 0
	for i := range numberBytes {
		v = v<<8 | int(b[i])
	}
	return v
}

// Bytes is what a head begins with: a sign, and behind it such numbers, of which the sides are the first.
func Bytes(sign string, l ...int) string {
	b := []byte(sign)
	for _, v := range l {
		b = append(b, byte(v>>24), byte(v>>16), byte(v>>8), byte(v))
	}
	return string(b)
}
