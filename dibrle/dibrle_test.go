package dibrle

import (
	"math"
	"slices"
	"strings"
	"testing"

	"tintype/api"
	"tintype/dibhead"
	"tintype/ledger"
	"tintype/palette"
	"tintype/raster"
	"tintype/src"
)

// random tells numbers below n, of a seed of its own.
func random(seed uint64) func(n int) int {
	return func(n int) int {
		seed = seed*6364136223846793005 + 1442695040888963407
		return int(seed>>33) % n
	}
}

// budget is a ledger that lets all sides and bytes, and so many steps.
func budget(steps int) *ledger.Ledger {
	return ledger.New(api.Budget{MaxWidth: math.MaxInt, MaxHeight: math.MaxInt, MaxBytes: math.MaxInt, MaxWork: steps})
}

func source(t *testing.T, l *ledger.Ledger, s string) *src.Src {
	t.Helper()
	x, e := src.New(l, s)
	if e != api.OK {
		t.Fatalf("no source of %.40q: %d", s, e)
	}
	return x
}

func canvas(t *testing.T, l *ledger.Ledger, h dibhead.Head) *raster.Raster {
	t.Helper()
	r, e := raster.New(l, h.Width, h.Height)
	if e != api.OK {
		t.Fatalf("no raster for %+v: %d", h, e)
	}
	return r
}

func wrong(kind, at int) api.Fault {
	return api.Fault{Kind: kind, Format: api.BMP, At: at}
}

// color is that of the entry number i: none is like another one, and none is zero.
func color(i int) api.Color {
	return api.Color{R: uint8(i), G: uint8(5 * i), B: uint8(255 - i), A: 255}
}

// table is a palette of so many colours.
func table(t *testing.T, n int) *palette.Palette {
	t.Helper()
	p, e := palette.New(budget(0), n)
	if e != api.OK {
		t.Fatalf("no palette: %d", e)
	}
	for i := range n {
		p.Add(color(i))
	}
	return p
}

// head is one that layer 20 tells, of 8 bits or of 4.
func head(t *testing.T, width, height, depth, colors int) dibhead.Head {
	t.Helper()
	h := dibhead.Head{Size: 40, Width: width, Height: height, Depth: depth, Method: 1, Colors: colors}
	if depth == 4 {
		h.Method = 2
	}
	if _, e := dibhead.Bytes(h); e != api.OK {
		t.Fatalf("%+v: %d", h, e)
	}
	return h
}

// ahead is what stands ahead of all commands that are held here.
const ahead = "xyz"

// model goes over a text by the chapter's words, a step at a time.
type model struct {
	head            dibhead.Head
	text            string
	at, steps, most int
	x, y            int
	pix             map[[2]int]api.Color // by column, and row from the last one up
	twice           bool
	f               api.Fault
}

// work does a step; false: it is refused.
func (m *model) work() bool {
	if m.steps == m.most {
		m.f = wrong(api.Spent, m.at)
		return false
	}
	m.steps++
	return true
}

// take is a reading.
func (m *model) take(n int) (string, bool) {
	if !m.work() {
		return "", false
	}
	if n > len(m.text)-m.at {
		m.f = wrong(api.Truncated, len(m.text))
		return "", false
	}
	m.at += n
	return m.text[m.at-n : m.at], true
}

// malformed is what is wrong at a place; it tells false.
func (m *model) malformed(at int) bool {
	m.f = wrong(api.Malformed, at)
	return false
}

// nibbles are the numbers of a byte.
func (m *model) nibbles(b byte) []int {
	if m.head.Depth == 8 {
		return []int{int(b)}
	}
	return []int{int(b) / 16, int(b) % 16}
}

// put puts an entry that there is.
func (m *model) put(i int) bool {
	if !m.work() {
		return false
	}
	k := [2]int{m.x, m.y}
	if _, ok := m.pix[k]; ok {
		m.twice = true
	}
	m.pix[k] = color(i)
	m.x++
	return true
}

// outside tells whether n pixels from the place on don't all stand in a row.
func (m *model) outside(n int) bool {
	return m.y >= m.head.Height || m.x+n > m.head.Width
}

// run puts n pixels of a byte's entries.
func (m *model) run(n int, b byte, at int) bool {
	if m.outside(n) {
		return m.malformed(at)
	}
	var l []int
	for len(l) < n {
		l = append(l, m.nibbles(b)...)
	}
	for _, i := range l[:n] {
		if i >= m.head.Colors {
			return m.malformed(at + 1)
		}
	}
	for _, i := range l[:n] {
		if !m.put(i) {
			return false
		}
	}
	return true
}

// plain reads n pixels as they are.
func (m *model) plain(n, at int) bool {
	if m.outside(n) {
		return m.malformed(at)
	}
	count := 0
	for k := 0; k < n; {
		b, ok := m.take(1)
		if !ok {
			return false
		}
		count++
		for _, i := range m.nibbles(b[0]) {
			if k == n {
				break
			}
			if i >= m.head.Colors {
				return m.malformed(m.at - 1)
			}
			if !m.put(i) {
				return false
			}
			k++
		}
	}
	if count%2 == 1 {
		_, ok := m.take(1)
		return ok
	}
	return true
}

// command does the one that stands next; false: there are no more.
func (m *model) command() bool {
	at := m.at
	b, ok := m.take(2)
	switch {
	case !ok || b == "\x00\x01":
		return false
	case b[0] > 0:
		return m.run(int(b[0]), b[1], at)
	case b[1] > 2:
		return m.plain(int(b[1]), at)
	case b[1] == 0:
		m.x = 0
		m.y++
	case b[1] == 2:
		far, ok := m.take(2)
		if !ok {
			return false
		}
		m.x += int(far[0])
		m.y += int(far[1])
	}
	if m.x > m.head.Width || m.y > m.head.Height {
		return m.malformed(at)
	}
	return true
}

// modelOf is the model of commands, behind what stands ahead of them.
func modelOf(h dibhead.Head, commands string, steps int) *model {
	m := &model{head: h, text: ahead + commands, at: len(ahead), most: steps, pix: map[[2]int]api.Color{}}
	for m.command() {
	}
	return m
}

// expect holds what Read makes of commands, by so many steps, against the model: the fault, the place, the steps and all pixels, also those behind a fault.
func expect(t *testing.T, commands string, h dibhead.Head, steps int) (api.Fault, int) {
	t.Helper()
	want := modelOf(h, commands, steps)
	if want.twice {
		t.Fatalf("%+v, %q: a pixel is put twice", h, commands)
	}
	l := budget(steps)
	s, r := source(t, l, ahead+commands), canvas(t, l, h)
	s.Seek(len(ahead))
	bytes := l.Bytes()
	f := Read(s, h, table(t, h.Colors), r, api.BMP)
	if f != want.f || s.At() != want.at || l.Steps() != want.steps {
		t.Fatalf("%+v, %q, %d steps: %+v at %d, %d steps, not %+v at %d, %d steps", h, commands, steps, f, s.At(), l.Steps(), want.f, want.at, want.steps)
	}
	if l.Bytes() != bytes || l.Peak() != bytes {
		t.Fatalf("%+v, %q: %d bytes are kept, and %d were", h, commands, l.Bytes(), l.Peak())
	}
	for y := range h.Height {
		for x := range h.Width {
			if got, ok := r.Get(x, h.Height-1-y); got != want.pix[[2]int{x, y}] || !ok {
				t.Fatalf("%+v, %q, %d steps: column %d, row %d is %v, not %v", h, commands, steps, x, y, got, want.pix[[2]int{x, y}])
			}
		}
	}
	if most := 2*len(commands) + h.Width*h.Height + 2; l.Steps() > most {
		t.Fatalf("%+v, %q: %d steps are more than %d", h, commands, l.Steps(), most)
	}
	return f, l.Steps()
}

// P22.1: the chapter's example.
func TestExample(t *testing.T) {
	h := head(t, 3, 1, 8, 6)
	l := budget(9)
	r := canvas(t, l, h)
	f := Read(source(t, l, "\x03\x05\x00\x00\x00\x01"), h, table(t, 6), r, api.BMP)
	m, _ := r.Image()
	if want := "\x05\x19\xfa\xff\x05\x19\xfa\xff\x05\x19\xfa\xff"; f != (api.Fault{}) || string(m.Pix) != want || l.Steps() != 6 {
		t.Errorf("%+v, %q, %d steps", f, m.Pix, l.Steps())
	}
}

// picture is what commands make, as letters: of each entry that of its number from a on, of what isn't put a full stop; rows from the top, a stroke between them.
func picture(t *testing.T, h dibhead.Head, commands string) string {
	t.Helper()
	l := budget(math.MaxInt)
	r := canvas(t, l, h)
	if f := Read(source(t, l, commands), h, table(t, h.Colors), r, api.BMP); f != (api.Fault{}) {
		t.Fatalf("%q: %+v", commands, f)
	}
	var b strings.Builder
	for y := range h.Height {
		if y > 0 {
			b.WriteByte('|')
		}
		for x := range h.Width {
			c, _ := r.Get(x, y)
			if c == (api.Color{}) {
				b.WriteByte('.')
			} else {
				b.WriteByte('a' + c.R)
			}
		}
	}
	return b.String()
}

// P22.1: all commands, of both kinds of pixels, told by hand.
func TestByHand(t *testing.T) {
	for _, x := range []struct {
		width, height, depth int
		commands, want       string
	}{
		{3, 1, 8, "\x03\x05\x00\x01", "fff"},
		{3, 2, 8, "\x03\x05\x00\x00\x02\x01\x00\x01", "bb.|fff"},
		{3, 2, 8, "\x01\x05\x02\x01\x00\x00\x00\x00\x00\x01", "...|fbb"},
		{3, 2, 8, "\x00\x01\x03\x05", "...|..."},
		{3, 2, 8, "\x00\x00\x03\x05\x00\x01", "fff|..."},
		{5, 1, 4, "\x05\x12\x00\x01", "bcbcb"},
		{5, 1, 4, "\x01\x12\x02\x34\x02\x55\x00\x01", "bdeff"},
		{5, 1, 8, "\x00\x03\x01\x02\x03\xff\x01\x04\x00\x01", "bcde."},
		{5, 1, 8, "\x00\x04\x01\x02\x03\x04\x01\x05\x00\x01", "bcdef"},
		{5, 1, 8, "\x00\x05\x01\x02\x03\x04\x05\x99\x00\x01", "bcdef"},
		{9, 1, 4, "\x00\x03\x12\x3f\x01\x40\x00\x01", "bcde....."},
		{9, 1, 4, "\x00\x04\x12\x34\x01\x50\x00\x01", "bcdef...."},
		{9, 1, 4, "\x00\x05\x12\x34\x5f\xff\x01\x60\x00\x01", "bcdefg..."},
		{9, 1, 4, "\x00\x06\x12\x34\x56\xff\x01\x70\x00\x01", "bcdefgh.."},
		{9, 1, 4, "\x00\x07\x12\x34\x56\x7f\x01\x10\x00\x01", "bcdefghb."},
		{4, 3, 8, "\x01\x01\x00\x02\x01\x01\x01\x02\x00\x01", "....|..c.|b..."},
		{4, 3, 8, "\x00\x02\x03\x02\x01\x02\x00\x01", "...c|....|...."},
		{4, 3, 8, "\x00\x02\x04\x00\x00\x00\x01\x02\x00\x01", "....|c...|...."},
		{4, 3, 8, "\x01\x01\x00\x02\x00\x02\x01\x02\x00\x01", ".c..|....|b..."},
		{4, 3, 8, "\x00\x02\x04\x03\x00\x01", "....|....|...."},
		{4, 3, 8, "\x00\x00\x00\x00\x00\x00\x00\x01", "....|....|...."},
		{4, 3, 8, "\x00\x02\x00\x00\x01\x02\x00\x01", "....|....|c..."},
	} {
		if got := picture(t, head(t, x.width, x.height, x.depth, 8), x.commands); got != x.want {
			t.Errorf("%q: %s, not %s", x.commands, got, x.want)
		}
	}
}

// P22.1: what is wrong, told by hand: of a format that is told, and where it stands.
func TestWrong(t *testing.T) {
	for _, x := range []struct {
		depth, kind, at int
		commands        string
	}{
		// Rows of three pixels, two of them, and entries of the numbers 0 to 8.
		{8, api.Truncated, 0, ""},
		{8, api.Truncated, 1, "\x01"},
		{8, api.Truncated, 2, "\x03\x01"},
		{8, api.Truncated, 3, "\x03\x01\x00"},
		{8, api.Malformed, 0, "\x04\x01\x00\x01"},
		{8, api.Malformed, 0, "\x04\x09"},
		{8, api.Malformed, 0, "\xff\xff"},
		{8, api.Malformed, 2, "\x02\x01\x02\x01\x00\x01"},
		{8, api.Malformed, 2, "\x03\x01\x01\x09"},
		{8, api.Malformed, 1, "\x03\x09\x00\x01"},
		{8, api.Malformed, 1, "\x01\xff"},
		{8, api.Malformed, 4, "\x00\x00\x00\x00\x01\x00\x00\x01"},
		{8, api.Malformed, 4, "\x00\x00\x00\x00\x00\x03\x01\x01\x01\x00"},
		{8, api.Malformed, 4, "\x00\x00\x00\x00\x00\x00\x00\x01"},
		{8, api.Malformed, 0, "\x00\x04\x01\x01\x01\x01\x00\x01"},
		{8, api.Malformed, 0, "\x00\x04"},
		{8, api.Malformed, 2, "\x01\x01\x00\x03"},
		{8, api.Malformed, 0, "\x00\xff"},
		{8, api.Truncated, 2, "\x00\x03"},
		{8, api.Truncated, 4, "\x00\x03\x01\x01"},
		{8, api.Truncated, 5, "\x00\x03\x01\x01\x01"},
		{8, api.Malformed, 4, "\x00\x03\x01\x01\x09"},
		{8, api.Malformed, 2, "\x00\x03\x09"},
		{8, api.Malformed, 0, "\x00\x02\x04\x00\x00\x01"},
		{8, api.Malformed, 0, "\x00\x02\x00\x03\x00\x01"},
		{8, api.Malformed, 0, "\x00\x02\xff\xff"},
		{8, api.Truncated, 2, "\x00\x02"},
		{8, api.Truncated, 3, "\x00\x02\xff"},
		{8, api.Malformed, 2, "\x01\x01\x00\x02\x03\x00\x00\x01"},
		{8, api.Malformed, 2, "\x00\x00\x00\x02\x00\x02\x00\x01"},
		{8, api.Malformed, 4, "\x00\x02\x03\x00\x01\x01\x00\x01"},
		{8, api.Malformed, 4, "\x00\x02\x00\x02\x01\x01\x00\x01"},
		{4, api.Malformed, 1, "\x02\x19\x00\x01"},
		{4, api.Malformed, 1, "\x02\x91\x00\x01"},
		{4, api.Malformed, 1, "\x01\x91\x00\x01"},
		{4, api.Malformed, 1, "\x03\x19\x00\x01"},
		{4, api.NoFault, 0, "\x01\x19\x00\x01"},
		{4, api.NoFault, 0, "\x00\x03\x12\x39\x00\x01"},
		{4, api.Malformed, 2, "\x00\x03\x19\x30\x00\x01"},
		{4, api.Malformed, 3, "\x00\x03\x11\x90\x00\x01"},
		{4, api.Truncated, 2, "\x00\x03"},
		{4, api.Truncated, 3, "\x00\x03\x12"},
		{4, api.Truncated, 4, "\x00\x03\x12\x30"},
		{4, api.Malformed, 0, "\x00\x04\x11\x11\x00\x01"},
		{4, api.Malformed, 0, "\x04\x11\x00\x01"},
	} {
		f, _ := expect(t, x.commands, head(t, 3, 2, x.depth, 9), math.MaxInt)
		want := wrong(x.kind, len(ahead)+x.at)
		if x.kind == api.NoFault {
			want = api.Fault{}
		}
		if f != want {
			t.Errorf("%q: %+v, not %+v", x.commands, f, want)
		}
		l := budget(math.MaxInt)
		h := head(t, 3, 2, x.depth, 9)
		want.At -= len(ahead)
		want.Format = api.ICO
		if want.Kind == api.NoFault {
			want = api.Fault{}
		}
		if f := Read(source(t, l, x.commands), h, table(t, 9), canvas(t, l, h), api.ICO); f != want {
			t.Errorf("%q: %+v, not %+v", x.commands, f, want)
		}
	}
}

// texts goes over all texts of so many bytes of an alphabet.
func texts(alphabet string, n int, each func(s string)) {
	b := make([]byte, n)
	var fill func(i int)
	fill = func(i int) {
		if i == n {
			each(string(b))
			return
		}
		for _, c := range []byte(alphabet) {
			b[i] = c
			fill(i + 1)
		}
	}
	fill(0)
}

// P22.1, P22.3: all short commands of a few bytes, on small sides, by all steps and by a few.
func TestAllShort(t *testing.T) {
	for _, h := range []dibhead.Head{head(t, 3, 2, 8, 3), head(t, 1, 1, 8, 2), head(t, 3, 2, 4, 3), head(t, 4, 1, 4, 16)} {
		alphabet := "\x00\x01\x02\x03\x04\x21"
		for n := range 7 {
			texts(alphabet, n, func(s string) {
				_, steps := expect(t, s, h, math.MaxInt)
				if n < 5 {
					for k := range steps {
						expect(t, s, h, k)
					}
				}
			})
		}
		for n := 7; n <= 10; n++ {
			texts("\x00\x02\x03", n, func(s string) { expect(t, s, h, math.MaxInt) })
		}
	}
}

// P22.1: runs of all lengths, in rows that are as long, longer and shorter.
func TestRuns(t *testing.T) {
	for _, depth := range []int{4, 8} {
		for n := 1; n <= 255; n++ {
			for _, width := range []int{n - 1, n, n + 1, 255, 256} {
				if width < 1 {
					continue
				}
				h := head(t, width, 2, depth, 16)
				f, _ := expect(t, string([]byte{byte(n), 0x0e, 0, 1}), h, math.MaxInt)
				if (f == api.Fault{}) != (n <= width) {
					t.Errorf("%d of %d: %+v", n, width, f)
				}
				f, _ = expect(t, string([]byte{1, 3, byte(n), 0x0e, 0, 1}), h, math.MaxInt)
				if (f == api.Fault{}) != (n < width) {
					t.Errorf("%d of %d less 1: %+v", n, width, f)
				}
			}
		}
	}
}

// P22.1: pixels as they are of all numbers, behind one pixel, with what fills their bytes, ahead of one more.
func TestPlain(t *testing.T) {
	next := random(22)
	for _, depth := range []int{4, 8} {
		for n := 3; n <= 255; n++ {
			b := make([]byte, (n*depth+15)/16*2)
			for i := range b {
				b[i] = byte(next(256))
			}
			for _, width := range []int{n, n + 1, n + 2, n + 3} {
				h := head(t, width, 1, depth, 1<<depth)
				s := "\x01\x23" + string([]byte{0, byte(n)}) + string(b) + "\x01\x45\x00\x01"
				f, _ := expect(t, s, h, math.MaxInt)
				if (f == api.Fault{}) != (n+2 <= width) {
					t.Errorf("%d in %d: %+v", n, width, f)
				}
				if n+2 > width || n > 40 && n%15 > 0 {
					continue
				}
				for k := range s {
					if f, _ := expect(t, s[:k], h, math.MaxInt); f != wrong(api.Truncated, len(ahead)+k) {
						t.Errorf("%d in %d, %d bytes: %+v", n, width, k, f)
					}
				}
			}
		}
	}
}

// P22.1: an entry that there isn't, in each byte of a command.
func TestNoEntry(t *testing.T) {
	for _, depth := range []int{4, 8} {
		for n := 1; n <= 1<<depth; n++ {
			h := head(t, 20, 1, depth, n)
			for v := range 256 {
				for count := range 5 {
					expect(t, string([]byte{byte(count), byte(v), 0, 1}), h, math.MaxInt)
				}
				for count := 3; count < 6; count++ {
					b := []byte{0, byte(count), 0, 0, 0, 0, 0, 0, 0, 1}
					for i := range 5 {
						b[2+i] = byte(v)
						expect(t, string(b), h, math.MaxInt)
						b[2+i] = 0
					}
				}
				if v > 20 && n > 20 && v%16 < 15 {
					break
				}
			}
		}
	}
}

// P22.1: moves about the ends of rows, and of them all.
func TestMoves(t *testing.T) {
	for _, h := range []dibhead.Head{head(t, 3, 2, 8, 2), head(t, 255, 254, 8, 2), head(t, 256, 300, 4, 16), head(t, 1, 1, 4, 2)} {
		for _, x := range []int{0, 1, 2, 3, 4, 253, 254, 255} {
			for _, y := range []int{0, 1, 2, 3, 253, 254, 255} {
				move := string([]byte{0, 2, byte(x), byte(y)})
				f, _ := expect(t, move+"\x00\x01", h, math.MaxInt)
				if (f == api.Fault{}) != (x <= h.Width && y <= h.Height) {
					t.Errorf("%d, %d of %+v: %+v", x, y, h, f)
				}
				f, _ = expect(t, move+"\x01\x00\x00\x01", h, math.MaxInt)
				if (f == api.Fault{}) != (x < h.Width && y < h.Height) {
					t.Errorf("a pixel at %d, %d of %+v: %+v", x, y, h, f)
				}
				expect(t, move+move+"\x00\x01", h, math.MaxInt)
				expect(t, move+"\x00\x00\x01\x00\x00\x01", h, math.MaxInt)
				expect(t, "\x01\x00"+move+"\x00\x03\x00\x00\x00\x00\x00\x01", h, math.MaxInt)
			}
		}
	}
}

// P22.1: all rows, ended one by one: the place may be behind the last one, and no further.
func TestRows(t *testing.T) {
	for height := 1; height < 40; height++ {
		h := head(t, 2, height, 8, 2)
		for n := range height + 3 {
			s := strings.Repeat("\x00\x00", n)
			want := api.Fault{}
			if n > height {
				want = wrong(api.Malformed, len(ahead)+2*height)
			}
			if f, _ := expect(t, s+"\x00\x01", h, math.MaxInt); f != want {
				t.Errorf("%d of %d: %+v", n, height, f)
			}
		}
	}
}

// piece is a command that mostly fits.
func piece(next func(n int) int, h dibhead.Head) string {
	switch next(8) {
	case 0, 1:
		return "\x00\x00"
	case 2:
		return string([]byte{0, 2, byte(next(3)), byte(next(2))})
	case 3:
		if next(6) == 0 {
			return "\x00\x01"
		}
		return ""
	case 4, 5:
		n := 3 + next(4)
		b := []byte{0, byte(n)}
		for range (n*h.Depth + 15) / 16 * 2 {
			b = append(b, entry(next, h))
		}
		return string(b)
	}
	return string([]byte{byte(1 + next(5)), entry(next, h)})
}

// entry is a byte that mostly has numbers of entries that there are.
func entry(next func(n int) int, h dibhead.Head) byte {
	if next(30) == 0 {
		return byte(next(256))
	}
	if h.Depth == 8 {
		return byte(next(h.Colors))
	}
	return byte(next(h.Colors)<<4 | next(h.Colors))
}

// P22.1, P22.3: any commands, and any bytes, cut off anywhere and by any number of steps.
func TestAny(t *testing.T) {
	next := random(1)
	for range 30000 {
		depth := 4 + 4*next(2)
		h := head(t, 1+next(12), 1+next(4), depth, 1+next(1<<depth))
		s := ""
		for range next(12) {
			s += piece(next, h)
		}
		s += "\x00\x01"
		if next(4) == 0 {
			b := []byte(s)
			b[next(len(b))] = byte(next(256))
			s = string(b)
		}
		_, steps := expect(t, s, h, math.MaxInt)
		expect(t, s, h, next(steps+1))
		expect(t, s[:next(len(s)+1)], h, math.MaxInt)
		expect(t, s+"behind", h, math.MaxInt)
	}
	for range 20000 {
		depth := 4 + 4*next(2)
		h := head(t, 1+next(300), 1+next(4), depth, 1<<depth)
		b := make([]byte, next(40))
		for i := range b {
			b[i] = byte(next(256) * next(2))
		}
		expect(t, string(b), h, math.MaxInt)
	}
}

// P22.1: by each number of steps it is Spent at the source's place; by all of them it is as it was.
func TestSteps(t *testing.T) {
	for _, x := range []struct {
		h dibhead.Head
		s string
	}{
		{head(t, 9, 3, 8, 8), "\x03\x05\x00\x03\x01\x02\x03\x00\x00\x00\x00\x02\x02\x01\x04\x07\x00\x04\x00\x01\x00\x01"},
		{head(t, 9, 3, 8, 8), "\x03\x05\x00\x03\x01\x02\x03\x00\x00\x00\x00\x02\x02\x01\x04\x07\x00\x01"},
		{head(t, 9, 3, 4, 8), "\x03\x05\x00\x03\x12\x30\x00\x00\x00\x05\x12\x34\x56\x00\x00\x02\x02\x01\x02\x77\x00\x01"},
	} {
		f, steps := expect(t, x.s, x.h, math.MaxInt)
		for n := range steps {
			if g, _ := expect(t, x.s, x.h, n); g.Kind != api.Spent {
				t.Errorf("%q by %d steps: %+v", x.s, n, g)
			}
		}
		for n := steps; n < steps+3; n++ {
			if g, _ := expect(t, x.s, x.h, n); g != f {
				t.Errorf("%q by %d steps: %+v, not %+v", x.s, n, g, f)
			}
		}
	}
}

// P22.1: a raster whose own ledger refuses a pixel: Spent, at the source's place, though the source's ledger isn't broken.
func TestOtherLedger(t *testing.T) {
	h := head(t, 9, 1, 8, 8)
	for n, at := range []int{2, 2, 2, 5, 6, 7} {
		s := source(t, budget(math.MaxInt), "\x03\x05\x00\x03\x01\x02\x03\x00\x00\x01")
		if f := Read(s, h, table(t, 8), canvas(t, budget(n), h), api.ICO); f != (api.Fault{Kind: api.Spent, Format: api.ICO, At: at}) || s.At() != at {
			t.Errorf("%d steps: %+v at %d", n, f, s.At())
		}
	}
}

// P22.1: a window's end is the end, and its places are those of the whole text.
func TestWindow(t *testing.T) {
	h := head(t, 3, 1, 8, 8)
	s, _ := source(t, budget(math.MaxInt), "ahead\x03\x05\x00\x01").Window(5, 3)
	if f := Read(s, h, table(t, 8), canvas(t, budget(9), h), api.BMP); f != wrong(api.Truncated, 8) {
		t.Errorf("%+v", f)
	}
	s, _ = source(t, budget(math.MaxInt), "ahead\x03\x05\x01\x05").Window(5, 3)
	s.Seek(6)
	if f := Read(s, h, table(t, 8), canvas(t, budget(9), h), api.BMP); f != wrong(api.Malformed, 6) {
		t.Errorf("%+v", f)
	}
}

// P22.3: the greatest sides: no more steps than may be, where a pixel a command is put, and where none is.
func TestGreat(t *testing.T) {
	h := head(t, api.MaxSide, 2, 8, 256)
	for _, row := range []string{
		strings.Repeat("\x01\x07", api.MaxSide),
		strings.Repeat("\xff\x07", api.MaxSide/255),
		strings.Repeat("\x00\x03abc!", api.MaxSide/3),
		strings.Repeat("\x00\x02\x00\x00", api.MaxSide),
		strings.Repeat("\x00\xff"+strings.Repeat("x", 256), api.MaxSide/255),
	} {
		text := row + "\x00\x00" + row + "\x00\x01"
		l := budget(math.MaxInt)
		if f := Read(source(t, l, text), h, table(t, 256), canvas(t, l, h), api.BMP); f != (api.Fault{}) {
			t.Errorf("%.40q: %+v", row, f)
		}
		if most := 2*len(text) + 2*api.MaxSide + 2; l.Steps() > most {
			t.Errorf("%.40q: %d steps are more than %d", row, l.Steps(), most)
		}
	}
}

// packed is commands by the chapter's words.
func packed(l []int, width, depth int) string {
	var b []byte
	for i := 0; i < len(l); {
		n := 1
		for (i+n)%width != 0 && l[i+n] == l[i] && n < 255 {
			n++
		}
		v := l[i]
		if depth == 4 {
			v *= 17
		}
		b = append(b, byte(n), byte(v))
		if i += n; i%width == 0 {
			b = append(b, 0, 0)
		}
	}
	return string(append(b, 0, 1))
}

func expectPack(t *testing.T, l []int, width, depth int, want string, e api.Errno) {
	t.Helper()
	was := slices.Clone(l)
	if s, g := Pack(l, width, depth); s != want || g != e {
		t.Errorf("%v, %d wide, %d bits: %q, %d, not %q, %d", l, width, depth, s, g, want, e)
	}
	if !slices.Equal(l, was) {
		t.Errorf("%d wide, %d bits: %v is %v now", width, depth, was, l)
	}
}

// P22.1: commands told by hand.
func TestPackByHand(t *testing.T) {
	expectPack(t, []int{5, 5, 5}, 3, 8, "\x03\x05\x00\x00\x00\x01", api.OK)
	expectPack(t, []int{5, 5, 5}, 3, 4, "\x03\x55\x00\x00\x00\x01", api.OK)
	expectPack(t, []int{5, 5, 5}, 1, 8, "\x01\x05\x00\x00\x01\x05\x00\x00\x01\x05\x00\x00\x00\x01", api.OK)
	expectPack(t, []int{0, 15, 15, 0}, 4, 4, "\x01\x00\x02\xff\x01\x00\x00\x00\x00\x01", api.OK)
	expectPack(t, []int{255, 0, 0, 255}, 2, 8, "\x01\xff\x01\x00\x00\x00\x01\x00\x01\xff\x00\x00\x00\x01", api.OK)
	expectPack(t, make([]int, 255), 255, 8, "\xff\x00\x00\x00\x00\x01", api.OK)
	expectPack(t, make([]int, 256), 256, 8, "\xff\x00\x01\x00\x00\x00\x00\x01", api.OK)
	expectPack(t, make([]int, 600), 600, 4, "\xff\x00\xff\x00\x5a\x00\x00\x00\x00\x01", api.OK)
}

// P22.1, P22.2: any rows are packed as the chapter says, and read as they were, the first one as the last one.
func TestPack(t *testing.T) {
	next := random(7)
	for range 4000 {
		depth := 4 + 4*next(2)
		width, height := 1+next(20), 1+next(5)
		if next(10) == 0 {
			width += next(700)
		}
		l := make([]int, 0, width*height)
		for len(l) < width*height {
			v := next(1 << depth)
			for range 1 + next(2)*next(2*width) {
				if len(l) < width*height {
					l = append(l, v)
				}
			}
		}
		expectPack(t, l, width, depth, packed(l, width, depth), api.OK)
		back(t, l, width, depth)
	}
	for _, width := range []int{1, 2, 254, 255, 256, 510, 511, api.MaxSide - 1, api.MaxSide} {
		for _, depth := range []int{4, 8} {
			l := make([]int, 2*width)
			l[width] = 1
			expectPack(t, l, width, depth, packed(l, width, depth), api.OK)
			back(t, l, width, depth)
		}
	}
}

// back holds what is read of entries that were packed against them.
func back(t *testing.T, l []int, width, depth int) {
	t.Helper()
	s, e := Pack(l, width, depth)
	if e != api.OK {
		t.Fatalf("%d", e)
	}
	h := head(t, width, len(l)/width, depth, 1<<depth)
	r := canvas(t, budget(len(l)), h)
	x := source(t, budget(len(s)), s)
	if f := Read(x, h, table(t, h.Colors), r, api.BMP); f != (api.Fault{}) || x.Left() != 0 {
		t.Fatalf("%d wide, %d bits, %.60q: %+v at %d", width, depth, s, f, x.At())
	}
	for i, v := range l {
		if got, ok := r.Get(i%width, h.Height-1-i/width); got != color(v) || !ok {
			t.Fatalf("%d wide, %d bits: number %d is %v, not %v", width, depth, i, got, color(v))
		}
	}
}

// P22.1: rows that have no commands: what is wrong with sides and bits comes ahead of the entries, wherever these stand.
func TestPackWrong(t *testing.T) {
	odd := []int{math.MinInt, -1 << 32, -8, -1, 0, 1, 2, 3, 5, 6, 7, 9, 16, 24, 32, 64, 1<<32 + 8, 1<<32 + 4, math.MaxInt}
	for _, l := range [][]int{nil, {}, {0}, {1, 2}, {-1, 2}, {1, 256, 3, 4, 5, 6}} {
		for _, depth := range odd {
			for _, width := range []int{1, 2, 3, -1, 0, math.MaxInt} {
				expectPack(t, l, width, depth, "", api.ErrArg)
			}
		}
		for _, depth := range []int{4, 8} {
			for _, width := range []int{math.MinInt, -2, -1, 0, 7, api.MaxSide, api.MaxSide + 1, 1 << 32, math.MaxInt} {
				expectPack(t, l, width, depth, "", api.ErrArg)
			}
		}
	}
	expectPack(t, nil, 1, 8, "", api.ErrArg)
	expectPack(t, make([]int, api.MaxSide+1), api.MaxSide+1, 8, "", api.ErrArg)
	expectPack(t, make([]int, 2*api.MaxSide+2), api.MaxSide+1, 4, "", api.ErrArg)
	expectPack(t, make([]int, 7), 2, 8, "", api.ErrArg)
	expectPack(t, make([]int, 7), 3, 4, "", api.ErrArg)
	for _, depth := range []int{4, 8} {
		for _, v := range []int{-1, math.MinInt, 1 << depth, 1<<depth + 1, 1 << 32, math.MaxInt} {
			for n := 1; n < 8; n++ {
				for at := range n {
					l := make([]int, n)
					l[at] = v
					expectPack(t, l, n, depth, "", api.ErrRange)
					expectPack(t, l, 1, depth, "", api.ErrRange)
				}
			}
		}
	}
	expectPack(t, []int{16}, 1, 8, "\x01\x10\x00\x00\x00\x01", api.OK)
	expectPack(t, []int{16}, 1, 4, "", api.ErrRange)
}

// P22.1: of more rows than a raster has, commands are made, too.
func TestPackHigh(t *testing.T) {
	l := make([]int, api.MaxSide+5)
	expectPack(t, l, 1, 8, strings.Repeat("\x01\x00\x00\x00", api.MaxSide+5)+"\x00\x01", api.OK)
}

// P22.1: of what layer 20 doesn't tell, and without a table, no more is promised than that the call ends.
func TestEnds(t *testing.T) {
	for _, depth := range []int{math.MinInt, -8, 0, 1, 4, 8, 9, 24, 64, math.MaxInt} {
		for _, side := range []int{math.MinInt, -1, 0, 1, 3, 70000, math.MaxInt} {
			for _, s := range []string{"", "\x03\x05\x00\x01", "\x00\x03abc!\x00\x00\x00\x02\xff\xff\x09\x09\x00\x01"} {
				h := dibhead.Head{Width: side, Height: side, Depth: depth, Method: 1}
				r, _ := raster.New(budget(1000), 2, 1)
				Read(source(t, budget(1000), s), h, nil, r, api.BMP)
				Read(source(t, budget(1000), s), h, table(t, 2), r, api.BMP)
			}
		}
	}
	h := head(t, 3, 1, 8, 8)
	if f := Read(source(t, budget(9), "\x03\x05"), h, nil, canvas(t, budget(9), h), api.BMP); f != wrong(api.Malformed, 1) {
		t.Errorf("%+v", f)
	}
}
