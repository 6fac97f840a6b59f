package raster

import (
	"math"
	"strings"
	"testing"

	"tintype/api"
	"tintype/ledger"
)

var (
	red   = api.Color{R: 255, A: 255}
	green = api.Color{G: 255, A: 255}
	blue  = api.Color{B: 255, A: 255}
	white = api.Color{R: 255, G: 255, B: 255, A: 255}
)

// free is a ledger that lets all that is asked for here.
func free() *ledger.Ledger {
	return ledger.New(api.Budget{MaxWidth: api.MaxSide, MaxHeight: api.MaxSide, MaxBytes: 1 << 40, MaxWork: math.MaxInt})
}

// working is a ledger that lets any image, and so many steps.
func working(steps int) *ledger.Ledger {
	return ledger.New(api.Budget{MaxWidth: api.MaxSide, MaxHeight: api.MaxSide, MaxBytes: 1 << 40, MaxWork: steps})
}

// made is an open raster.
func made(t *testing.T, l *ledger.Ledger, width, height int) *Raster {
	t.Helper()
	r, e := New(l, width, height)
	if r == nil || e != api.OK {
		t.Fatalf("no raster of %d by %d: %d", width, height, e)
	}
	return r
}

// mark is a colour of a place of its own, in rasters of up to 64 columns.
func mark(x, y int) api.Color {
	n := 64*y + x + 1
	return api.Color{R: byte(n), G: byte(n >> 8), B: byte(3 * n), A: byte(255 - n)}
}

// marked is a raster with a mark at each place; the marks took a step each.
func marked(t *testing.T, l *ledger.Ledger, width, height int) *Raster {
	t.Helper()
	r := made(t, l, width, height)
	for y := range height {
		for x := range width {
			if !r.Set(x, y, mark(x, y)) {
				t.Fatalf("no mark at %d, %d", x, y)
			}
		}
	}
	return r
}

func bytesOf(c api.Color) string { return string([]byte{c.R, c.G, c.B, c.A}) }

// expect holds an open raster's pixels, by all calls that tell them, against those that at tells.
func expect(t *testing.T, r *Raster, width, height int, at func(x, y int) api.Color) {
	t.Helper()
	if r.Width() != width || r.Height() != height {
		t.Fatalf("%d by %d, not %d by %d", r.Width(), r.Height(), width, height)
	}
	for y := range height {
		want := ""
		for x := range width {
			if c, ok := r.Get(x, y); c != at(x, y) || !ok {
				t.Errorf("Get(%d, %d) = %v, %t, not %v", x, y, c, ok, at(x, y))
			}
			want += bytesOf(at(x, y))
		}
		if row, ok := r.Row(y); row != want || !ok {
			t.Errorf("Row(%d) = %x, %t, not %x", y, row, ok, want)
		}
	}
}

func expectMarks(t *testing.T, r *Raster, width, height int) {
	t.Helper()
	expect(t, r, width, height, mark)
}

// expectClosed asks a raster that isn't open for all that there is; nothing of it is a step, nor are bytes given back.
func expectClosed(t *testing.T, r *Raster, l *ledger.Ledger, width, height int) {
	t.Helper()
	bytes, steps, broken := l.Bytes(), l.Steps(), l.Broken()
	for y := -1; y <= height; y++ {
		for x := -1; x <= width; x++ {
			if c, ok := r.Get(x, y); c != (api.Color{}) || ok || r.Set(x, y, white) {
				t.Errorf("a pixel of a closed one at %d, %d", x, y)
			}
		}
		if row, ok := r.Row(y); row != "" || ok {
			t.Errorf("a row of a closed one at %d", y)
		}
	}
	if r.FlipRows() || r.FlipColumns() {
		t.Error("a closed one is flipped")
	}
	if m, ok := r.Image(); ok || m.Width != 0 || m.Height != 0 || len(m.Pix) != 0 {
		t.Error("an image of a closed one")
	}
	if r.Free() {
		t.Error("a closed one is freed")
	}
	if r.Width() != width || r.Height() != height {
		t.Errorf("a closed one has %d by %d, not %d by %d", r.Width(), r.Height(), width, height)
	}
	if l.Bytes() != bytes || l.Steps() != steps || l.Broken() != broken {
		t.Errorf("a closed one changed its ledger: %d bytes, %d steps, %t", l.Bytes(), l.Steps(), l.Broken())
	}
}

func expectCounts(t *testing.T, l *ledger.Ledger, bytes, peak, steps int) {
	t.Helper()
	if l.Bytes() != bytes || l.Peak() != peak || l.Steps() != steps {
		t.Errorf("%d bytes, peak %d, %d steps, not %d, %d, %d", l.Bytes(), l.Peak(), l.Steps(), bytes, peak, steps)
	}
}

// expectFirst holds a ledger's first refusal.
func expectFirst(t *testing.T, l *ledger.Ledger, want ledger.Refusal) {
	t.Helper()
	if first, refused := l.First(); first != want || refused != (want.Reason != 0) {
		t.Errorf("the first refusal is %+v, %t, not %+v", first, refused, want)
	}
}

// P7.1: the example of the chapter.
func TestExample(t *testing.T) {
	l := free()
	r := made(t, l, 2, 1)
	if !r.Set(0, 0, red) || !r.FlipColumns() {
		t.Error("refused")
	}
	if c, ok := r.Get(1, 0); c != red || !ok {
		t.Error(c, ok)
	}
	if c, ok := r.Get(0, 0); c != (api.Color{}) || !ok {
		t.Error(c, ok)
	}
	expectCounts(t, l, 8, 8, 2)
}

// P7.1: a new raster is all zero, and has four bytes a pixel of its ledger.
func TestNew(t *testing.T) {
	for _, s := range [][2]int{{1, 1}, {1, 2}, {2, 1}, {3, 5}, {64, 64}, {1, api.MaxSide}, {api.MaxSide, 1}} {
		l := free()
		r := made(t, l, s[0], s[1])
		expectCounts(t, l, 4*s[0]*s[1], 4*s[0]*s[1], 0)
		expect(t, r, s[0], s[1], func(x, y int) api.Color { return api.Color{} })
		expectFirst(t, l, ledger.Refusal{})
	}
}

// P7.1: what New is asked for, and answers; of several that is wrong the first.
func TestNewOfWrong(t *testing.T) {
	const side = api.MaxSide
	budget := api.Budget{MaxWidth: 10, MaxHeight: 20, MaxBytes: 400}
	most := api.Budget{MaxWidth: 1 << 40, MaxHeight: 1 << 40, MaxBytes: 4*side*side - 1}
	cases := []struct {
		name          string
		budget        api.Budget
		width, height int
		want          api.Errno
		first         ledger.Refusal
	}{
		{"the widest", budget, 10, 10, api.OK, ledger.Refusal{}},
		{"the highest", budget, 5, 20, api.OK, ledger.Refusal{}},
		{"too wide", budget, 11, 1, api.ErrSpent, ledger.Refusal{Reason: ledger.Sides, Asked: 11}},
		{"too high", budget, 1, 21, api.ErrSpent, ledger.Refusal{Reason: ledger.Sides, Asked: 21}},
		{"too wide and too high", budget, 12, 21, api.ErrSpent, ledger.Refusal{Reason: ledger.Sides, Asked: 12}},
		{"too wide, and too many bytes", budget, 101, 1, api.ErrSpent, ledger.Refusal{Reason: ledger.Sides, Asked: 101}},
		{"too many bytes", budget, 10, 11, api.ErrSpent, ledger.Refusal{Reason: ledger.Bytes, Asked: 440}},
		{"all sides, too many bytes", most, side, side, api.ErrSpent, ledger.Refusal{Reason: ledger.Bytes, Asked: 4 * side * side}},
		{"no sides let", api.Budget{}, 1, 1, api.ErrSpent, ledger.Refusal{Reason: ledger.Sides, Asked: 1}},
		{"sides below 0 let", api.Budget{MaxWidth: -1, MaxHeight: -1, MaxBytes: 9}, 1, 1, api.ErrSpent, ledger.Refusal{Reason: ledger.Sides, Asked: 1}},
		{"no bytes let", api.Budget{MaxWidth: 9, MaxHeight: 9}, 1, 1, api.ErrSpent, ledger.Refusal{Reason: ledger.Bytes, Asked: 4}},
		{"three bytes let", api.Budget{MaxWidth: 9, MaxHeight: 9, MaxBytes: 3}, 1, 1, api.ErrSpent, ledger.Refusal{Reason: ledger.Bytes, Asked: 4}},
		{"four bytes let", api.Budget{MaxWidth: 9, MaxHeight: 9, MaxBytes: 4}, 1, 1, api.OK, ledger.Refusal{}},
		{"no width", budget, 0, 1, api.ErrRange, ledger.Refusal{}},
		{"no height", budget, 1, 0, api.ErrRange, ledger.Refusal{}},
		{"no width, and too high", budget, 0, 21, api.ErrRange, ledger.Refusal{}},
		{"too wide, and no height", budget, 11, 0, api.ErrRange, ledger.Refusal{}},
		{"both below 0", budget, -1, -1, api.ErrRange, ledger.Refusal{}},
		{"beyond the greatest width", most, side + 1, 1, api.ErrRange, ledger.Refusal{}},
		{"beyond the greatest height", most, 1, side + 1, api.ErrRange, ledger.Refusal{}},
		{"a product that runs over", most, 1 << 32, 1 << 32, api.ErrRange, ledger.Refusal{}},
		{"the least numbers", most, math.MinInt, math.MinInt, api.ErrRange, ledger.Refusal{}},
		{"the greatest numbers", most, math.MaxInt, math.MaxInt, api.ErrRange, ledger.Refusal{}},
	}
	for _, c := range cases {
		l := ledger.New(c.budget)
		r, e := New(l, c.width, c.height)
		if e != c.want || (r != nil) != (e == api.OK) {
			t.Errorf("%s: %v, %d", c.name, r, e)
		}
		expectFirst(t, l, c.first)
		bytes := 0
		if r != nil {
			bytes = 4 * c.width * c.height
		}
		expectCounts(t, l, bytes, bytes, 0)
		if r, e := New(nil, c.width, c.height); r != nil || e != api.ErrArg {
			t.Errorf("%s, without a ledger: %v, %d", c.name, r, e)
		}
	}
}

// P7.1: of a ledger that is broken nothing is made, and sides that can't be are wrong ahead of that; what was made ahead is read, and freed.
func TestBroken(t *testing.T) {
	l := free()
	r := marked(t, l, 3, 2)
	l.Work(-1)
	if none, e := New(l, 1, 1); none != nil || e != api.ErrSpent {
		t.Error(none, e)
	}
	if none, e := New(l, 0, 1); none != nil || e != api.ErrRange {
		t.Error(none, e)
	}
	if r.Set(0, 0, red) || r.FlipRows() || r.FlipColumns() {
		t.Error("a step of a broken ledger")
	}
	expectMarks(t, r, 3, 2)
	expectCounts(t, l, 24, 24, 6)
	if !r.Free() {
		t.Error("not freed")
	}
	expectCounts(t, l, 0, 24, 6)
	expectClosed(t, r, l, 3, 2)
}

// P7.1: a pixel is set, and told, alone; each Set is a step.
func TestSet(t *testing.T) {
	const width, height = 4, 3
	for v := range height {
		for u := range width {
			l := free()
			r := made(t, l, width, height)
			if !r.Set(u, v, api.Color{R: 1, G: 2, B: 3, A: 4}) {
				t.Errorf("Set(%d, %d)", u, v)
			}
			expect(t, r, width, height, func(x, y int) api.Color {
				if x == u && y == v {
					return api.Color{R: 1, G: 2, B: 3, A: 4}
				}
				return api.Color{}
			})
			expectCounts(t, l, 48, 48, 1)
			if !r.Set(u, v, api.Color{}) || !r.Set(u, v, white) {
				t.Errorf("Set(%d, %d) once more", u, v)
			}
			expectCounts(t, l, 48, 48, 3)
			if c, _ := r.Get(u, v); c != white {
				t.Errorf("now it is %v", c)
			}
		}
	}
}

// P7.1: the bytes of a row are R, G, B, A, pixel by pixel from the left.
func TestRow(t *testing.T) {
	r := made(t, free(), 2, 2)
	r.Set(0, 1, api.Color{R: 1, G: 2, B: 3, A: 4})
	r.Set(1, 1, api.Color{R: 5, G: 6, B: 7, A: 255})
	if row, ok := r.Row(1); row != "\x01\x02\x03\x04\x05\x06\x07\xff" || !ok {
		t.Errorf("%x, %t", row, ok)
	}
	row, ok := r.Row(0)
	if row != strings.Repeat("\x00", 8) || !ok {
		t.Errorf("%x, %t", row, ok)
	}
	r.Set(0, 0, white)
	r.Free()
	if row != strings.Repeat("\x00", 8) {
		t.Errorf("what was told is now %x", row)
	}
}

// places are those about the sides of a raster of 4 by 3, and far from them; some of them, times a width, or a pixel's bytes, run over to places that are there.
var places = []int{math.MinInt, math.MinInt + 1, -1 << 62, -1 << 32, -12, -4, -3, -1, 0, 1, 2, 3, 4, 5, 11, 12, 48, 1 << 30, 1 << 32, 1 << 60, 1 << 61, 1 << 62, math.MaxInt - 1, math.MaxInt}

// P7.1: a pixel, and a row, at any place; of one that isn't there no step is done.
func TestPlaces(t *testing.T) {
	l := free()
	r := marked(t, l, 4, 3)
	steps := 12
	for _, y := range places {
		for _, x := range places {
			there, want := 0 <= x && x < 4 && 0 <= y && y < 3, api.Color{}
			if there {
				want = mark(x, y)
				steps++
			}
			if c, ok := r.Get(x, y); c != want || ok != there {
				t.Errorf("Get(%d, %d) = %v, %t", x, y, c, ok)
			}
			if r.Set(x, y, want) != there {
				t.Errorf("Set(%d, %d)", x, y)
			}
			expectCounts(t, l, 48, 48, steps)
		}
		row, ok := r.Row(y)
		if there := 0 <= y && y < 3; ok != there || len(row) != 16 && there || row != "" && !there {
			t.Errorf("Row(%d) = %x, %t", y, row, ok)
		}
	}
	expectMarks(t, r, 4, 3)
	expectFirst(t, l, ledger.Refusal{})
}

// P7.1: a pixel that isn't there is asked for ahead of its step, so it breaks no ledger; one that is there does, and isn't changed.
func TestSetIsRefused(t *testing.T) {
	for steps := range 5 {
		l := working(steps)
		r := made(t, l, 2, 2)
		for i := range steps {
			if r.Set(2, 0, white) || r.Set(0, 2, white) || !r.Set(i%2, i/2, mark(i%2, i/2)) {
				t.Errorf("%d steps: %d", steps, i)
			}
		}
		if r.Set(-1, 0, white) || l.Broken() {
			t.Errorf("%d steps: no pixel asked for one more", steps)
		}
		if r.Set(0, 0, white) || r.Set(1, 1, white) {
			t.Errorf("%d steps: one more", steps)
		}
		expectFirst(t, l, ledger.Refusal{Reason: ledger.Work, Asked: 1})
		expectCounts(t, l, 16, 16, steps)
		expect(t, r, 2, 2, func(x, y int) api.Color {
			if 2*y+x < steps {
				return mark(x, y)
			}
			return api.Color{}
		})
	}
}

// P7.1: rows and columns of each small raster, and their steps.
func TestFlips(t *testing.T) {
	for height := 1; height <= 6; height++ {
		for width := 1; width <= 6; width++ {
			rows, columns := width*(height/2), height*(width/2)
			l := working(width*height + rows + columns)
			r := marked(t, l, width, height)
			if !r.FlipRows() {
				t.Errorf("the rows of %d by %d", width, height)
			}
			expect(t, r, width, height, func(x, y int) api.Color { return mark(x, height-1-y) })
			expectCounts(t, l, 4*width*height, 4*width*height, width*height+rows)
			if !r.FlipColumns() {
				t.Errorf("the columns of %d by %d", width, height)
			}
			expect(t, r, width, height, func(x, y int) api.Color { return mark(width-1-x, height-1-y) })
			expectCounts(t, l, 4*width*height, 4*width*height, width*height+rows+columns)
		}
	}
}

// P7.1: columns alone.
func TestFlipColumns(t *testing.T) {
	r := made(t, free(), 3, 2)
	for x, c := range []api.Color{red, green, blue} {
		r.Set(x, 1, c)
	}
	if !r.FlipColumns() {
		t.Error("refused")
	}
	expect(t, r, 3, 2, func(x, y int) api.Color {
		if y == 0 {
			return api.Color{}
		}
		return []api.Color{blue, green, red}[x]
	})
}

// P7.1: of flips whose steps aren't let nothing is changed; they are asked for at once.
func TestFlipsAreRefused(t *testing.T) {
	for height := 1; height <= 4; height++ {
		for width := 1; width <= 4; width++ {
			for _, rows := range []bool{true, false} {
				steps := height * (width / 2)
				if rows {
					steps = width * (height / 2)
				}
				for let := range steps {
					l := working(width*height + let)
					r := marked(t, l, width, height)
					if rows && r.FlipRows() || !rows && r.FlipColumns() {
						t.Errorf("%d by %d, rows %t, by %d steps", width, height, rows, let)
					}
					expectMarks(t, r, width, height)
					expectFirst(t, l, ledger.Refusal{Reason: ledger.Work, Asked: steps})
					expectCounts(t, l, 4*width*height, 4*width*height, width*height)
				}
			}
		}
	}
}

// P7.2: to flip twice changes nothing, one behind the other or with the other flip between.
func TestFlipTwice(t *testing.T) {
	for _, s := range [][2]int{{1, 1}, {1, 5}, {5, 1}, {2, 3}, {3, 2}, {4, 4}, {7, 5}, {64, 33}} {
		r := marked(t, free(), s[0], s[1])
		if !r.FlipRows() || !r.FlipRows() {
			t.Error("the rows")
		}
		expectMarks(t, r, s[0], s[1])
		if !r.FlipColumns() || !r.FlipColumns() {
			t.Error("the columns")
		}
		expectMarks(t, r, s[0], s[1])
		if !r.FlipColumns() || !r.FlipRows() || !r.FlipColumns() || !r.FlipRows() {
			t.Error("both")
		}
		expectMarks(t, r, s[0], s[1])
	}
}

// P7.1, P7.2: an image has just the pixels that were set; it is its owner's from then on, and counts on.
func TestImage(t *testing.T) {
	l := free()
	r := made(t, l, 3, 2)
	r.Set(1, 0, api.Color{R: 1, G: 2, B: 3, A: 4})
	r.Set(2, 1, api.Color{R: 250, G: 251, B: 252, A: 253})
	m, ok := r.Image()
	want := "\x00\x00\x00\x00\x01\x02\x03\x04\x00\x00\x00\x00\x00\x00\x00\x00\x00\x00\x00\x00\xfa\xfb\xfc\xfd"
	if !ok || m.Width != 3 || m.Height != 2 || string(m.Pix) != want || !Right(m) {
		t.Errorf("%+v, %t", m, ok)
	}
	expectCounts(t, l, 24, 24, 2)
	expectClosed(t, r, l, 3, 2)
	if string(m.Pix) != want {
		t.Errorf("a closed raster changed its image: %x", m.Pix)
	}
	other := made(t, l, 3, 2)
	expectCounts(t, l, 48, 48, 2)
	for i := range m.Pix {
		m.Pix[i] = 7
	}
	expect(t, other, 3, 2, func(x, y int) api.Color { return api.Color{} })
	if !l.Give(24) {
		t.Error("the image's bytes don't count")
	}
}

// P7.2: the image of marks, however they were set and flipped.
func TestImageOfMarks(t *testing.T) {
	for _, s := range [][2]int{{1, 1}, {1, 7}, {7, 1}, {6, 5}, {64, 64}} {
		width, height := s[0], s[1]
		r := marked(t, free(), width, height)
		r.FlipRows()
		m, ok := r.Image()
		if !ok || m.Width != width || m.Height != height {
			t.Fatalf("%d by %d, %t", m.Width, m.Height, ok)
		}
		for y := range height {
			for x := range width {
				if c, ok := Pixel(m, x, y); c != mark(x, height-1-y) || !ok {
					t.Errorf("Pixel(%d, %d) = %v, %t", x, y, c, ok)
				}
			}
		}
	}
}

// P7.1: Free gives just the bytes of New back, once.
func TestFree(t *testing.T) {
	l := free()
	one, other := marked(t, l, 3, 2), marked(t, l, 2, 2)
	expectCounts(t, l, 40, 40, 10)
	if !one.Free() {
		t.Error("not freed")
	}
	expectCounts(t, l, 16, 40, 10)
	expectClosed(t, one, l, 3, 2)
	expectMarks(t, other, 2, 2)
	if !other.Free() || other.Free() || one.Free() {
		t.Error("freed otherwise than once")
	}
	expectCounts(t, l, 0, 40, 10)
	expectClosed(t, other, l, 2, 2)
	third := made(t, l, 3, 2)
	expect(t, third, 3, 2, func(x, y int) api.Color { return api.Color{} })
}

// model is a raster as the chapter has it.
type model struct {
	r             *Raster
	width, height int
	pix           map[[2]int]api.Color
	open          bool
}

func (m *model) has(x, y int) bool {
	return m.open && 0 <= x && x < m.width && 0 <= y && y < m.height
}

// turn is the model with each pixel at the place that to tells.
func (m *model) turn(to func(x, y int) (int, int)) {
	pix := map[[2]int]api.Color{}
	for y := range m.height {
		for x := range m.width {
			u, v := to(x, y)
			pix[[2]int{u, v}] = m.pix[[2]int{x, y}]
		}
	}
	m.pix = pix
}

// move does one thing to a raster and its model, with so many steps left; it tells how many steps it asked for (-1: none), how many bytes were given back, and whether both told the same.
func (m *model) move(next func(n int) int, left int) (int, int, bool) {
	x, y := next(m.width+2)-1, next(m.height+2)-1
	c := api.Color{R: byte(next(256)), G: byte(next(256)), B: byte(next(256)), A: byte(next(256))}
	switch k := next(24); {
	case k == 0:
		was := m.open
		m.open = false
		if m.r.Free() != was {
			return -1, 0, false
		}
		if !was {
			return -1, 0, true
		}
		return -1, 4 * m.width * m.height, true
	case k == 1:
		was := m.open
		m.open = false
		_, ok := m.r.Image()
		return -1, 0, ok == was
	case k < 5:
		steps := m.width * (m.height / 2)
		if !m.open {
			return -1, 0, !m.r.FlipRows()
		}
		if steps <= left {
			m.turn(func(x, y int) (int, int) { return x, m.height - 1 - y })
		}
		return steps, 0, m.r.FlipRows() == (steps <= left)
	case k < 8:
		steps := m.height * (m.width / 2)
		if !m.open {
			return -1, 0, !m.r.FlipColumns()
		}
		if steps <= left {
			m.turn(func(x, y int) (int, int) { return m.width - 1 - x, y })
		}
		return steps, 0, m.r.FlipColumns() == (steps <= left)
	case k < 16:
		if !m.has(x, y) {
			return -1, 0, !m.r.Set(x, y, c)
		}
		if left >= 1 {
			m.pix[[2]int{x, y}] = c
		}
		return 1, 0, m.r.Set(x, y, c) == (left >= 1)
	case k < 20:
		want := ""
		for x := 0; m.has(0, y) && x < m.width; x++ {
			want += bytesOf(m.pix[[2]int{x, y}])
		}
		row, ok := m.r.Row(y)
		return -1, 0, row == want && ok == m.has(0, y)
	}
	want := api.Color{}
	if m.has(x, y) {
		want = m.pix[[2]int{x, y}]
	}
	got, ok := m.r.Get(x, y)
	return -1, 0, got == want && ok == m.has(x, y)
}

// P7.1, P7.2: behind any calls rasters of one ledger tell what their models do, and the ledger has their bytes and steps.
func TestAnyCalls(t *testing.T) {
	seed := uint32(1)
	next := func(n int) int {
		seed = seed*1664525 + 1013904223
		return int(seed>>8) % n
	}
	for game := range 400 {
		work, bytes, steps, broken := next(200), 0, 0, false
		l := working(work)
		var all []*model
		for range 1 + next(3) {
			width, height := 1+next(5), 1+next(5)
			all = append(all, &model{r: made(t, l, width, height), width: width, height: height, pix: map[[2]int]api.Color{}, open: true})
			bytes += 4 * width * height
		}
		for turn := range 80 {
			left := work - steps
			if broken {
				left = -1
			}
			asked, given, same := all[next(len(all))].move(next, left)
			if !same {
				t.Fatalf("game %d, turn %d: unlike the model", game, turn)
			}
			bytes -= given
			if asked > left {
				broken = true
			} else if asked > 0 {
				steps += asked
			}
			if l.Bytes() != bytes || l.Steps() != steps || l.Broken() != broken {
				t.Fatalf("game %d, turn %d: %d bytes, %d steps, %t, not %d, %d, %t", game, turn, l.Bytes(), l.Steps(), l.Broken(), bytes, steps, broken)
			}
		}
		for _, m := range all {
			if m.open {
				expect(t, m.r, m.width, m.height, func(x, y int) api.Color { return m.pix[[2]int{x, y}] })
			} else {
				expectClosed(t, m.r, l, m.width, m.height)
			}
		}
	}
}

// picture is an image whose bytes count from 1 on.
func picture(width, height, bytes int) api.Image {
	m := api.Image{Width: width, Height: height, Pix: make([]byte, bytes)}
	for i := range m.Pix {
		m.Pix[i] = byte(i + 1)
	}
	return m
}

// wrong are images that aren't right.
func wrong() []api.Image {
	return []api.Image{
		{},
		{Pix: []byte{}},
		picture(0, 0, 4), picture(0, 1, 0), picture(1, 0, 0), picture(1, 1, 0),
		picture(1, 1, 3), picture(1, 1, 5), picture(1, 1, 1), picture(2, 2, 15), picture(2, 2, 17), picture(2, 2, 4),
		picture(-1, -1, 4), picture(-1, 1, 4), picture(-2, -2, 16), picture(-1, 2, 0),
		picture(api.MaxSide+1, 1, 4*(api.MaxSide+1)), picture(1, api.MaxSide+1, 4*(api.MaxSide+1)),
		picture(1<<31, 1<<31, 0), picture(1<<32, 1<<32, 0), picture(1<<62, 1, 0), picture(1<<62+1, 1, 4), picture(1, 1<<62+1, 4),
		picture(math.MinInt, 1, 0), picture(math.MinInt, math.MinInt, 4), picture(math.MaxInt, math.MaxInt, 4),
	}
}

// P7.1: images that are right, and that aren't.
func TestRight(t *testing.T) {
	for _, s := range [][2]int{{1, 1}, {1, 2}, {2, 1}, {5, 7}, {api.MaxSide, 1}, {1, api.MaxSide}, {api.MaxSide, 3}} {
		if m := picture(s[0], s[1], 4*s[0]*s[1]); !Right(m) {
			t.Errorf("%d by %d isn't right", m.Width, m.Height)
		}
	}
	for _, m := range wrong() {
		if Right(m) {
			t.Errorf("%d by %d of %d bytes is right", m.Width, m.Height, len(m.Pix))
		}
	}
	room := api.Image{Width: 1, Height: 1, Pix: make([]byte, 3, 8)}
	if Right(room) {
		t.Error("spare room counts")
	}
}

// P7.1: pixels of an image, at any place.
func TestPixel(t *testing.T) {
	m := picture(4, 3, 48)
	for _, y := range places {
		for _, x := range places {
			there, want := 0 <= x && x < 4 && 0 <= y && y < 3, api.Color{}
			if there {
				i := byte(4 * (4*y + x))
				want = api.Color{R: i + 1, G: i + 2, B: i + 3, A: i + 4}
			}
			if c, ok := Pixel(m, x, y); c != want || ok != there {
				t.Errorf("Pixel(%d, %d) = %v, %t, not %v", x, y, c, ok, want)
			}
		}
	}
	if !Same(m, picture(4, 3, 48)) {
		t.Error("it was changed")
	}
	for _, m := range wrong() {
		for _, y := range places {
			for _, x := range places {
				if c, ok := Pixel(m, x, y); c != (api.Color{}) || ok {
					t.Errorf("%d by %d of %d bytes: Pixel(%d, %d) = %v, %t", m.Width, m.Height, len(m.Pix), x, y, c, ok)
				}
			}
		}
	}
}

// P7.1: a clone is the same, right or not, and shares no bytes, spare room neither.
func TestClone(t *testing.T) {
	for _, m := range append(wrong(), picture(1, 1, 4), picture(4, 3, 48)) {
		had := string(m.Pix)
		m.Pix = append(make([]byte, 0, len(had)+8), had...)
		c := Clone(m)
		if c.Width != m.Width || c.Height != m.Height || string(c.Pix) != had || !Same(m, c) {
			t.Errorf("%d by %d of %d bytes is %d by %d of %d", m.Width, m.Height, len(m.Pix), c.Width, c.Height, len(c.Pix))
		}
		for i := range c.Pix {
			c.Pix[i]++
		}
		if string(m.Pix) != had {
			t.Error("a change of the clone changes what it is of")
		}
		c = Clone(m)
		for i := range m.Pix {
			m.Pix[i]++
		}
		_ = append(m.Pix, 99)
		c.Pix = append(c.Pix, 7)
		if string(c.Pix) != had+"\x07" || m.Pix[:len(had)+1][len(had)] != 99 {
			t.Error("a change of what it is of changes the clone")
		}
	}
}

// P7.1: images are the same by their sides and bytes, right or not.
func TestSame(t *testing.T) {
	all := append(wrong(), picture(4, 3, 48), picture(3, 4, 48), picture(2, 6, 48), picture(4, 3, 47), picture(4, 4, 48))
	for i, a := range all {
		for k, b := range all {
			want := a.Width == b.Width && a.Height == b.Height && string(a.Pix) == string(b.Pix)
			if Same(a, b) != want || i == k && !want {
				t.Errorf("%d by %d of %d bytes, and %d by %d of %d: %t", a.Width, a.Height, len(a.Pix), b.Width, b.Height, len(b.Pix), !want)
			}
		}
	}
	if !Same(api.Image{Pix: []byte{}}, api.Image{}) {
		t.Error("nil and empty bytes are one")
	}
	m := picture(4, 3, 48)
	for i := range m.Pix {
		other := picture(4, 3, 48)
		other.Pix[i]++
		if Same(m, other) || Same(other, m) {
			t.Errorf("the byte %d isn't looked at", i)
		}
	}
}
