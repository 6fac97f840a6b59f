package solidpix

import (
	"slices"
	"testing"

	"tintype/api"
)

// image is one row of such colours.
func image(l ...api.Color) api.Image {
	m := api.Image{Width: len(l), Height: 1}
	for _, c := range l {
		m.Pix = append(m.Pix, c.R, c.G, c.B, c.A)
	}
	return m
}

// P28.1, P29.1: all colours are solid.
func TestColor(t *testing.T) {
	if c := Color(1, 2, 3); c != (api.Color{R: 1, G: 2, B: 3, A: 255}) {
		t.Error(c)
	}
	if c := Grey(7); c != (api.Color{R: 7, G: 7, B: 7, A: 255}) {
		t.Error(c)
	}
}

// P28.1, P29.1: a pixel that isn't solid, wherever it stands.
func TestAll(t *testing.T) {
	for at := range 5 {
		for a := range 256 {
			l := []api.Color{Grey(1), Grey(0), Color(1, 2, 3), Grey(255), Grey(9)}
			l[at].A = uint8(a)
			m := image(l...)
			if All(m) != (a == 255) {
				t.Errorf("%d at %d", a, at)
			}
			if _, _, ok := Number(m, nil, 256); ok != (a == 255) {
				t.Errorf("%d at %d", a, at)
			}
		}
	}
}

// P28.1, P29.1: colours are numbered in the order in which they come, behind those that are given.
func TestNumber(t *testing.T) {
	a, b, c := Color(1, 2, 3), Color(3, 2, 1), Grey(0)
	m := image(b, a, b, c, a)
	for _, x := range []struct {
		given   []api.Color
		most    int
		numbers []byte
		colors  []api.Color
	}{
		{nil, 256, []byte{0, 1, 0, 2, 1}, []api.Color{b, a, c}},
		{nil, 3, []byte{0, 1, 0, 2, 1}, []api.Color{b, a, c}},
		{nil, 2, nil, nil},
		{[]api.Color{c}, 3, []byte{1, 2, 1, 0, 2}, []api.Color{c, b, a}},
		{[]api.Color{Grey(9)}, 4, []byte{1, 2, 1, 3, 2}, []api.Color{Grey(9), b, a, c}},
		{[]api.Color{Grey(9)}, 3, nil, nil},
		{[]api.Color{a, b, c}, 3, []byte{1, 0, 1, 2, 0}, []api.Color{a, b, c}},
		{[]api.Color{a, c}, 2, nil, nil},
	} {
		numbers, colors, ok := Number(m, x.given, x.most)
		if ok != (x.numbers != nil) || !slices.Equal(numbers, x.numbers) || !slices.Equal(colors, x.colors) {
			t.Errorf("%+v: %v, %v, %t", x, numbers, colors, ok)
		}
	}
}

// P28.1, P29.1: as many colours as there may be.
func TestMost(t *testing.T) {
	var l []api.Color
	for n := range 300 {
		l = append(l, Color(uint8(n), uint8(n>>8), 1))
		for _, most := range []int{1, 2, 16, 256} {
			numbers, colors, ok := Number(image(l...), nil, most)
			if ok != (n < most) || ok && (len(colors) != n+1 || int(numbers[n]) != n) {
				t.Errorf("%d of %d: %t", n+1, most, ok)
			}
		}
	}
}

// P28.1, P29.1: bits stand from the highest of a byte on, and are told as they were; what lacks is 0.
func TestBits(t *testing.T) {
	if b := Bits([]byte{1, 0, 1, 1, 0, 0, 0, 1, 1}, 0, 3); !slices.Equal(b, []byte{0xb1, 0x80, 0}) {
		t.Errorf("%x", b)
	}
	row := []byte{5, 2, 15, 0, 8, 7, 9, 4, 1, 6, 3}
	for place := range 4 {
		b := Bits(row, place, 2)
		for x := range 16 {
			want := 0
			if x < len(row) {
				want = int(row[x]) >> place & 1
			}
			if got := Bit(b[x/8], x); got != want {
				t.Errorf("%d of %d: %d", place, x, got)
			}
		}
	}
	if b := Bits(nil, 0, 0); len(b) != 0 {
		t.Errorf("%x", b)
	}
}
