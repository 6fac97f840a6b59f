package dibrow

import (
	"encoding/binary"
	"math"
	"slices"
	"strings"
	"testing"

	"tintype/api"
	"tintype/dibhead"
	"tintype/ledger"
	"tintype/mask"
	"tintype/palette"
	"tintype/raster"
	"tintype/src"
)

// Bits of pixels.
var (
	numbered = []int{1, 4, 8}
	colored  = []int{16, 24, 32}
	all      = slices.Concat(numbered, colored)
)

// random tells numbers below n, of a seed of its own.
func random() func(n int) int {
	seed := uint64(1)
	return func(n int) int {
		seed = seed*6364136223846793005 + 1442695040888963407
		return int(seed>>31) % n
	}
}

func budget(bytes, steps int) *ledger.Ledger {
	return ledger.New(api.Budget{MaxWidth: api.MaxSide, MaxHeight: api.MaxSide, MaxBytes: bytes, MaxWork: steps})
}

// free is a ledger that lets everything.
func free() *ledger.Ledger { return budget(math.MaxInt, math.MaxInt) }

func source(t *testing.T, l *ledger.Ledger, s string) *src.Src {
	t.Helper()
	x, e := src.New(l, s)
	if e != api.OK {
		t.Fatalf("no source of %q: %d", s, e)
	}
	return x
}

func wrong(kind, at int) api.Fault {
	return api.Fault{Kind: kind, Format: api.BMP, At: at}
}

// run is so many bytes, none like those beside it.
func run(n int) string {
	b := make([]byte, n)
	for i := range b {
		b[i] = byte(37*i + i/256 + 11)
	}
	return string(b)
}

// head is one that layer 20 tells: its bytes are made, and read by it.
func head(t *testing.T, size, width, height, bits, colors int) dibhead.Head {
	t.Helper()
	b := make([]byte, size)
	binary.LittleEndian.PutUint32(b, uint32(size))
	if size == 12 {
		for i, v := range []int{width, height, 1, bits} {
			binary.LittleEndian.PutUint16(b[4+2*i:], uint16(v))
		}
	} else {
		binary.LittleEndian.PutUint32(b[4:], uint32(width))
		binary.LittleEndian.PutUint32(b[8:], uint32(height))
		binary.LittleEndian.PutUint16(b[12:], 1)
		binary.LittleEndian.PutUint16(b[14:], uint16(bits))
		binary.LittleEndian.PutUint32(b[32:], uint32(colors))
	}
	h, f := dibhead.Read(source(t, free(), string(b)), api.BMP)
	if f != (api.Fault{}) {
		t.Fatalf("%q: %+v", b, f)
	}
	return h
}

// upright is a set of masks that is none of layer 9's common ones, with A.
func upright(t *testing.T, bits int) mask.Set {
	t.Helper()
	var set mask.Set
	var e api.Errno
	switch bits {
	case 16:
		set, _, e = mask.Four(0xf, 0xf0, 0xf00, 0xf000, 16)
	case 32:
		set, _, e = mask.Four(0xff, 0xff00, 0xff0000, 0xff000000, 32)
	}
	if e != api.OK {
		t.Fatal(e)
	}
	return set
}

// colors are so many, none two alike.
func colors(n int) []api.Color {
	l := make([]api.Color, n)
	for i := range l {
		l[i] = api.Color{R: uint8(i), G: uint8(3 * i), B: uint8(255 - i), A: 255}
	}
	return l
}

// pal is a palette of colours, nil of none.
func pal(t *testing.T, l []api.Color) *palette.Palette {
	t.Helper()
	if len(l) == 0 {
		return nil
	}
	p, e := palette.New(free(), len(l))
	if e != api.OK {
		t.Fatal(e)
	}
	for _, c := range l {
		p.Add(c)
	}
	return p
}

// tableBytes is how many bytes the table behind a head has.
func tableBytes(h dibhead.Head) int {
	if h.Size == 12 && h.Depth <= 8 {
		return 3 * h.Colors
	}
	return 4 * h.Colors
}

// entriesOf are the colours of a table's bytes.
func entriesOf(s string, n, size int) []api.Color {
	l := make([]api.Color, n)
	for i := range l {
		l[i] = api.Color{R: s[i*size+2], G: s[i*size+1], B: s[i*size], A: 255}
	}
	return l
}

// expectTable holds what Table tells against the entries that it should, nil: no palette, or the fault; and the ledger's bytes.
func expectTable(t *testing.T, s *src.Src, h dibhead.Head, want []api.Color, f api.Fault) {
	t.Helper()
	bytes := s.Ledger().Bytes()
	p, g := Table(s, h, api.BMP)
	if g != f || (p != nil) != (want != nil) {
		t.Fatalf("%+v: %v, %+v, not %+v", h, p, g, f)
	}
	if got := s.Ledger().Bytes() - bytes; got != 4*len(want) {
		t.Errorf("%+v: %d bytes are kept", h, got)
	}
	if p == nil {
		return
	}
	if p.Len() != len(want) {
		t.Fatalf("%+v: %d entries, not %d", h, p.Len(), len(want))
	}
	for i, c := range want {
		if got, ok := p.Of(i); got != c || !ok {
			t.Fatalf("%+v: entry %d is %v, %t, not %v", h, i, got, ok, c)
		}
	}
	if p.Add(api.Color{}) {
		t.Errorf("%+v: there is room for more", h)
	}
	if !p.Free() || s.Ledger().Bytes() != bytes {
		t.Errorf("%+v: %d bytes aren't given back", h, s.Ledger().Bytes()-bytes)
	}
}

// tables are heads with tables of all numbers of entries that are near to an end, of all bits.
func tables(t *testing.T) []dibhead.Head {
	t.Helper()
	var l []dibhead.Head
	for _, bits := range []int{1, 4, 8, 24} {
		l = append(l, head(t, 12, 1, 1, bits, 0))
	}
	for _, size := range []int{40, 52, 56, 108, 124} {
		for _, bits := range all {
			most := min(1<<bits, 256)
			for _, n := range []int{0, 1, 2, 3, 15, 16, 100, 255, 256} {
				if n <= most {
					l = append(l, head(t, size, 1, 1, bits, n))
				}
			}
		}
	}
	return l
}

// P21.1: tables of all bits: the entries of those whose pixels are numbers, of three bytes or of four, the others gone over; what stands behind isn't read.
func TestTable(t *testing.T) {
	for _, h := range tables(t) {
		n := tableBytes(h)
		s := source(t, free(), "ahead"+run(n)+"behind")
		s.Seek(5)
		var want []api.Color
		steps := 1
		if h.Depth <= 8 {
			want = entriesOf(run(n), h.Colors, n/h.Colors)
			steps = h.Colors
		}
		expectTable(t, s, h, want, api.Fault{})
		if s.At() != 5+n || s.Ledger().Steps() != steps {
			t.Errorf("%+v: at %d, behind %d steps", h, s.At(), s.Ledger().Steps())
		}
	}
}

// P21.1: tables that are cut off anywhere, also by a window's end: Truncated there, of the format that was told, and no bytes are kept.
func TestTableCut(t *testing.T) {
	for _, h := range tables(t) {
		whole := run(tableBytes(h))
		for n := range whole {
			expectTable(t, source(t, free(), whole[:n]), h, nil, wrong(api.Truncated, n))
			w, _ := source(t, free(), "ahead"+whole).Window(5, n)
			l := w.Ledger()
			l.Take(7)
			if p, f := Table(w, h, api.ICO); p != nil || f != (api.Fault{Kind: api.Truncated, Format: api.ICO, At: 5 + n}) || l.Bytes() != 7 {
				t.Fatalf("%+v, %d bytes: %v, %+v, %d", h, n, p, f, l.Bytes())
			}
		}
	}
}

// P21.1: by each number of steps and of bytes: Spent, at the source's place, and no bytes are kept.
func TestTableSpent(t *testing.T) {
	for _, h := range tables(t) {
		whole := "xyz" + run(tableBytes(h))
		at := func(l *ledger.Ledger) *src.Src {
			s := source(t, l, whole)
			s.Seek(3)
			return s
		}
		if h.Depth > 8 {
			expectTable(t, at(budget(0, 0)), h, nil, wrong(api.Spent, 3))
			expectTable(t, at(budget(0, 1)), h, nil, api.Fault{})
			continue
		}
		for n := range h.Colors {
			expectTable(t, at(budget(4*h.Colors, n)), h, nil, wrong(api.Spent, 3+n*h.Entry()))
		}
		for n := range 4 * h.Colors {
			expectTable(t, at(budget(n, math.MaxInt)), h, nil, wrong(api.Spent, 3))
		}
		if p, f := Table(at(budget(0, math.MaxInt)), h, api.ICO); p != nil || f != (api.Fault{Kind: api.Spent, Format: api.ICO, At: 3}) {
			t.Errorf("%+v: %v, %+v", h, p, f)
		}
		expectTable(t, at(budget(4*h.Colors, h.Colors)), h, entriesOf(whole[3:], h.Colors, h.Entry()), api.Fault{})
	}
}

// machine goes over bytes step by step, as layers 5 and 7 say.
type machine struct {
	s           string
	at, to      int
	done, steps int
	spent       bool
}

func (m *machine) step() bool {
	if m.spent || m.done == m.steps {
		m.spent = true
		return false
	}
	m.done++
	return true
}

func (m *machine) take(n int) (string, bool) {
	if !m.step() || m.at+n > m.to {
		return "", false
	}
	m.at += n
	return m.s[m.at-n : m.at], true
}

func (m *machine) fault() api.Fault {
	if m.spent {
		return wrong(api.Spent, m.at)
	}
	return wrong(api.Truncated, m.to)
}

// picture is what is to be read: behind a head, with entries or masks.
type picture struct {
	head    dibhead.Head
	entries []api.Color
	set     mask.Set
}

// model is what the chapter's words say of rows: the pixels, or the fault.
func (p picture) model(m *machine) ([]byte, api.Fault) {
	h := p.head
	pix := make([]byte, 4*h.Width*h.Height)
	rest := map[int]int{}
	for w := range 4 {
		rest[w] = (4 - w) % 4
	}
	for k := range h.Height {
		y := k
		if !h.Top {
			y = h.Height - 1 - k
		}
		b := ""
		for x := range h.Width {
			c, f := p.pixel(m, &b, x)
			if f != (api.Fault{}) {
				return nil, f
			}
			if !m.step() {
				return nil, wrong(api.Spent, m.at)
			}
			copy(pix[4*(y*h.Width+x):], []byte{c.R, c.G, c.B, c.A})
		}
		used := (h.Width*h.Depth + 7) / 8
		if _, ok := m.take(rest[used%4]); !ok {
			return nil, m.fault()
		}
	}
	return pix, api.Fault{}
}

// pixel is the one in column x of a row, of whose bytes b is the last one that was read.
func (p picture) pixel(m *machine, b *string, x int) (api.Color, api.Fault) {
	var ok bool
	if p.head.Depth > 8 {
		s, ok := m.take(p.head.Depth / 8)
		if !ok {
			return api.Color{}, m.fault()
		}
		switch p.head.Depth {
		case 16:
			return p.set.Color(int(s[0]) + 256*int(s[1])), api.Fault{}
		case 24:
			return api.Color{R: s[2], G: s[1], B: s[0], A: 255}, api.Fault{}
		}
		return p.set.Color(int(s[0]) + 256*int(s[1]) + 65536*int(s[2]) + 1<<24*int(s[3])), api.Fault{}
	}
	in := 8 / p.head.Depth
	if x%in == 0 {
		if *b, ok = m.take(1); !ok {
			return api.Color{}, m.fault()
		}
	}
	i := int((*b)[0])
	for range in - 1 - x%in {
		i >>= p.head.Depth
	}
	i %= 1 << p.head.Depth
	if i >= len(p.entries) {
		return api.Color{}, wrong(api.Malformed, m.at-1)
	}
	return p.entries[i], api.Fault{}
}

// held holds what Rows tells of bytes, with so many steps, against the model, and tells the fault and the steps.
func (p picture) held(t *testing.T, s string, steps int) (api.Fault, int) {
	t.Helper()
	const ahead = 3
	m := &machine{s: "xyz" + s, at: ahead, to: ahead + len(s), steps: steps}
	pix, f := p.model(m)
	l := budget(math.MaxInt, steps)
	x := source(t, l, m.s)
	x.Seek(ahead)
	r, e := raster.New(l, p.head.Width, p.head.Height)
	if e != api.OK {
		t.Fatal(e)
	}
	kept := l.Bytes()
	g := Rows(x, p.head, pal(t, p.entries), p.set, r, api.BMP)
	if g != f || l.Steps() != m.done {
		t.Fatalf("%+v, %q, %d steps: %+v behind %d, not %+v behind %d", p, s, steps, g, l.Steps(), f, m.done)
	}
	if l.Bytes() != kept {
		t.Fatalf("%+v, %q: %d bytes more are kept", p, s, l.Bytes()-kept)
	}
	if f != (api.Fault{}) {
		return f, m.done
	}
	if got, ok := r.Image(); !ok || string(got.Pix) != string(pix) {
		t.Fatalf("%+v, %q: %v, not %v", p, s, got.Pix, pix)
	}
	if x.At() != m.at {
		t.Fatalf("%+v, %q: the source is at %d, not at %d", p, s, x.At(), m.at)
	}
	return f, m.done
}

// pictures are of all bits, with sides of each number to a greatest one, from the top and from the bottom, and with any masks.
func pictures(t *testing.T, widths, heights int) []picture {
	t.Helper()
	var l []picture
	for _, bits := range all {
		for width := 1; width <= widths; width++ {
			for height := -heights; height <= heights; height++ {
				if height == 0 {
					continue
				}
				p := picture{head: head(t, 40, width, height, bits, 0)}
				p.set = p.head.Masks
				if bits <= 8 {
					p.entries = colors(1 << bits)
				}
				l = append(l, p)
				if bits == 16 || bits == 32 {
					p.set = upright(t, bits)
					l = append(l, p)
				}
			}
		}
	}
	return l
}

// size is how many bytes all rows have.
func (p picture) size() int { return p.head.Stride() * p.head.Height }

// P21.1: rows of all bits and widths, from the top and from the bottom; what stands behind isn't read.
func TestRows(t *testing.T) {
	rand := random()
	for _, p := range pictures(t, 70, 3) {
		b := make([]byte, p.size())
		for i := range b {
			b[i] = byte(rand(256))
		}
		if f, _ := p.held(t, string(b)+"behind", math.MaxInt); f != (api.Fault{}) {
			t.Errorf("%+v: %+v", p, f)
		}
	}
}

// P21.1: what rows are, told by hand.
func TestRowsByHand(t *testing.T) {
	red, blue, grey := api.Color{R: 255, A: 255}, api.Color{B: 255, A: 255}, api.Color{R: 9, G: 9, B: 9, A: 255}
	two := []api.Color{red, blue}
	for _, x := range []struct {
		s       string
		h       dibhead.Head
		entries []api.Color
		set     mask.Set
		want    []api.Color
	}{
		{"\xa0\xff\xff\xff", head(t, 40, 3, 1, 1, 0), two, mask.Set{}, []api.Color{blue, red, blue}},
		{"\x00\x80\x00\x00", head(t, 12, 9, 1, 1, 0), two, mask.Set{}, []api.Color{red, red, red, red, red, red, red, red, blue}},
		{"\x10\x0f\x00\x00\x01\x10\x00\x00", head(t, 40, 3, 2, 4, 2), two, mask.Set{}, []api.Color{red, blue, blue, blue, red, red}},
		{"\x10\x0f\x00\x00\x01\x10\x00\x00", head(t, 40, 3, -2, 4, 2), two, mask.Set{}, []api.Color{blue, red, red, red, blue, blue}},
		{"\x01\x00\x05\x05", head(t, 40, 2, 1, 8, 2), two, mask.Set{}, []api.Color{blue, red}},
		{"\x00\x00\xff\x00\xff\x00\x00\x00", head(t, 12, 1, 2, 24, 0), nil, mask.Set{}, []api.Color{blue, red}},
		{"\x09\x09\x09\xff", head(t, 40, 1, -1, 24, 0), nil, mask.Set{}, []api.Color{grey}},
		{"\x00\x7c\x1f\x80", head(t, 40, 2, 1, 16, 0), nil, head(t, 40, 2, 1, 16, 0).Masks, []api.Color{red, blue}},
		{"\x0f\xf0\x00\x0f", head(t, 40, 2, 1, 16, 0), nil, upright(t, 16), []api.Color{red, {B: 255}}},
		{"\x00\x00\xff\x00\xff\x00\x00\x77", head(t, 40, 2, 1, 32, 0), nil, head(t, 40, 2, 1, 32, 0).Masks, []api.Color{red, blue}},
		{"\x00\x00\xff\x00\xff\x00\x00\x77", head(t, 40, 2, 1, 32, 0), nil, upright(t, 32), []api.Color{{B: 255}, {R: 255, A: 0x77}}},
	} {
		r, _ := raster.New(free(), x.h.Width, x.h.Height)
		if f := Rows(source(t, free(), x.s), x.h, pal(t, x.entries), x.set, r, api.BMP); f != (api.Fault{}) {
			t.Fatalf("%q: %+v", x.s, f)
		}
		for i, c := range x.want {
			if got, _ := r.Get(i%x.h.Width, i/x.h.Width); got != c {
				t.Errorf("%q, pixel %d: %v, not %v", x.s, i, got, c)
			}
		}
	}
}

// P21.1: each byte of one pixel's row, of up to 16 bits each word: the rest isn't looked at.
func TestRowsOfAllWords(t *testing.T) {
	for _, p := range pictures(t, 8, 1) {
		if p.head.Depth > 16 {
			continue
		}
		for v := range 1 << 16 {
			if p.head.Width > 1 && v%251 > 0 {
				continue
			}
			s := string([]byte{byte(v), byte(v >> 8), byte(v), byte(v >> 8)})
			p.held(t, strings.Repeat(s, 4)[:p.size()], math.MaxInt)
		}
	}
}

// P21.1: rows that are cut off anywhere, in their rest, too, and by a window's end: Truncated there, of the format that was told.
func TestRowsCut(t *testing.T) {
	for _, p := range pictures(t, 9, 2) {
		whole := run(p.size())
		for n := range whole {
			if f, _ := p.held(t, whole[:n], math.MaxInt); f != wrong(api.Truncated, 3+n) {
				t.Fatalf("%+v, %d bytes: %+v", p, n, f)
			}
			r, _ := raster.New(free(), p.head.Width, p.head.Height)
			w, _ := source(t, free(), "ahead"+whole).Window(5, n)
			if f := Rows(w, p.head, pal(t, p.entries), p.set, r, api.ICO); f != (api.Fault{Kind: api.Truncated, Format: api.ICO, At: 5 + n}) {
				t.Fatalf("%+v, %d bytes: %+v", p, n, f)
			}
		}
	}
}

// P21.1: by each number of steps: Spent, at the source's place; and all steps are no more than they may be.
func TestRowsSpent(t *testing.T) {
	for _, p := range pictures(t, 9, 2) {
		whole := run(p.size())
		_, steps := p.held(t, whole, math.MaxInt)
		for n := range steps {
			if f, _ := p.held(t, whole, n); f.Kind != api.Spent {
				t.Fatalf("%+v, %d steps: %+v", p, n, f)
			}
		}
		p.held(t, whole, steps)
	}
}

// P21.1: numbers that no entry has: Malformed, at the byte in which they stand, if nothing is wrong ahead of it; in a row's rest they aren't looked at.
func TestNoEntry(t *testing.T) {
	for _, bits := range numbered {
		for _, colors := range []int{1, 2, 3, 9, 15, 16, 255} {
			if colors > 1<<bits {
				continue
			}
			for width := 1; width < 20; width++ {
				h := head(t, 40, width, 2, bits, colors)
				p := picture{head: h, entries: entriesOf(run(4*colors), colors, 4)}
				zero := strings.Repeat("\x00", p.size())
				for at := range zero {
					for v := range 256 {
						s := zero[:at] + string([]byte{byte(v)}) + zero[at+1:]
						f, _ := p.held(t, s, math.MaxInt)
						if f != (api.Fault{}) && f != wrong(api.Malformed, 3+at) {
							t.Fatalf("%+v, %q: %+v", p, s, f)
						}
					}
				}
				p.held(t, run(p.size()), math.MaxInt)
				p.held(t, run(p.size()/2), math.MaxInt)
			}
		}
	}
	h := head(t, 40, 2, 1, 1, 1)
	r, _ := raster.New(free(), 2, 1)
	if f := Rows(source(t, free(), "\x40\x00\x00\x00"), h, pal(t, colors(1)), mask.Set{}, r, -3); f != (api.Fault{Kind: api.Malformed, Format: -3, At: 0}) {
		t.Errorf("%+v", f)
	}
	if c, _ := r.Get(0, 0); c != colors(1)[0] {
		t.Errorf("the pixel ahead of it is %v", c)
	}
}

// P21.1: a pixel's step that another ledger than the source's refuses: Spent, at the source's place; the pixels ahead of it are put.
func TestOtherLedger(t *testing.T) {
	for _, p := range pictures(t, 9, 2) {
		s := run(p.size())
		for n := range p.head.Width * p.head.Height {
			x := source(t, free(), s)
			r, _ := raster.New(budget(math.MaxInt, n), p.head.Width, p.head.Height)
			row, column := n/p.head.Width, n%p.head.Width
			at := row*p.head.Stride() + ((column+1)*p.head.Depth+7)/8
			if f := Rows(x, p.head, pal(t, p.entries), p.set, r, api.BMP); f != wrong(api.Spent, at) || x.At() != at {
				t.Fatalf("%+v, %d steps: %+v, at %d", p, n, f, x.At())
			}
		}
	}
}

// P21.1: any bytes, any number of entries, and any number of steps.
func TestAny(t *testing.T) {
	rand := random()
	for range 30000 {
		bits := all[rand(len(all))]
		colors := rand(min(1<<bits, 256) + 1)
		h := head(t, 40, 1+rand(20), 1+rand(3)-4*rand(2), bits, colors)
		p := picture{head: h, set: h.Masks}
		if bits <= 8 {
			p.entries = entriesOf(run(4*h.Colors), h.Colors, 4)
		}
		b := make([]byte, rand(p.size()+2))
		for i := range b {
			b[i] = byte(rand(256) * rand(2))
		}
		p.held(t, string(b), math.MaxInt)
		p.held(t, string(b), rand(4*len(b)+4))
	}
}

// P21.2: heads, tables and rows of all bits and sizes, those of the most steps a pixel and a byte among them, of files that are right and of such as are cut off.
func TestSteps(t *testing.T) {
	type sides struct{ width, height int }
	for _, x := range []sides{{1, 1}, {1, 16384}, {2, 3000}, {3, 2000}, {8, 999}, {9, 999}, {16384, 1}, {4000, 3}, {300, 200}} {
		for _, bits := range all {
			for _, n := range []int{0, 1, 256} {
				if n > 1<<bits {
					continue
				}
				h := head(t, 40, x.width, x.height, bits, n)
				b, e := dibhead.Bytes(h)
				if e != api.OK {
					t.Fatalf("%+v: %d", h, e)
				}
				whole := b + strings.Repeat("\x00", tableBytes(h)+h.Stride()*h.Height)
				for _, s := range []string{whole, whole[:len(whole)-1], whole[:len(whole)/2]} {
					expectSteps(t, s, h, s == whole)
				}
			}
		}
	}
}

// expectSteps holds the steps of a bitmap's reading against how many they may be at most.
func expectSteps(t *testing.T, s string, h dibhead.Head, right bool) {
	t.Helper()
	l := free()
	x := source(t, l, s)
	r, _ := raster.New(l, h.Width, h.Height)
	got, f := dibhead.Read(x, api.BMP)
	if f == (api.Fault{}) {
		var p *palette.Palette
		if p, f = Table(x, got, api.BMP); f == (api.Fault{}) {
			f = Rows(x, got, p, got.Masks, r, api.BMP)
		}
	}
	if right && (f != api.Fault{} || got != h) || !right && f != wrong(api.Truncated, len(s)) {
		t.Fatalf("%+v: %+v, %+v", h, got, f)
	}
	if most := 4*h.Width*h.Height + 2*len(s) + 300; l.Steps() > most {
		t.Errorf("%+v: %d steps are more than %d", h, l.Steps(), most)
	}
}

// packed is a row by the chapter's words, bit by bit: each byte's highest bit first.
func packed(l []int, bits int) string {
	var text []byte
	var row strings.Builder
	for _, v := range l {
		for k := range bits {
			bit := bits - 1 - k
			if bits > 8 {
				bit = k/8*8 + 7 - k%8
			}
			row.WriteByte(byte('0' + v>>bit&1))
		}
	}
	for row.Len()%32 > 0 {
		row.WriteByte('0')
	}
	for s := row.String(); s != ""; s = s[8:] {
		b := byte(0)
		for _, c := range s[:8] {
			b = 2*b + byte(c-'0')
		}
		text = append(text, b)
	}
	return string(text)
}

func expectPack(t *testing.T, l []int, bits int, want string, e api.Errno) {
	t.Helper()
	was := slices.Clone(l)
	if s, g := Pack(l, bits); s != want || g != e {
		t.Errorf("%v, %d bits: %q, %d, not %q, %d", l, bits, s, g, want, e)
	}
	if !slices.Equal(l, was) {
		t.Errorf("%d bits: %v is %v now", bits, was, l)
	}
}

// P21.1: the chapter's example, and others told by hand.
func TestPackByHand(t *testing.T) {
	expectPack(t, []int{1, 0, 1}, 1, "\xa0\x00\x00\x00", api.OK)
	expectPack(t, []int{0, 0, 0, 0, 0, 0, 0, 0, 1}, 1, "\x00\x80\x00\x00", api.OK)
	expectPack(t, []int{1, 2, 15}, 4, "\x12\xf0\x00\x00", api.OK)
	expectPack(t, []int{255}, 8, "\xff\x00\x00\x00", api.OK)
	expectPack(t, []int{1, 2, 3, 4, 5}, 8, "\x01\x02\x03\x04\x05\x00\x00\x00", api.OK)
	expectPack(t, []int{0x1234, 0xffff, 1}, 16, "\x34\x12\xff\xff\x01\x00\x00\x00", api.OK)
	expectPack(t, []int{0x123456, 0xffffff}, 24, "\x56\x34\x12\xff\xff\xff\x00\x00", api.OK)
	expectPack(t, []int{0x12345678, 1<<32 - 1}, 32, "\x78\x56\x34\x12\xff\xff\xff\xff", api.OK)
}

// P21.1: rows of all lengths of any numbers; nothing is of none.
func TestPack(t *testing.T) {
	rand := random()
	for _, bits := range all {
		expectPack(t, nil, bits, "", api.OK)
		expectPack(t, []int{}, bits, "", api.OK)
		for n := range 140 {
			l := make([]int, n)
			for range 5 {
				for i := range l {
					l[i] = rand(1 << bits)
				}
				expectPack(t, l, bits, packed(l, bits), api.OK)
			}
			for i := range l {
				l[i] = 1<<bits - 1
			}
			expectPack(t, l, bits, packed(l, bits), api.OK)
		}
	}
}

// P21.1: bits that no row has come ahead of numbers that aren't there, wherever these stand.
func TestPackWrong(t *testing.T) {
	for bits := -70; bits < 300; bits++ {
		if !slices.Contains(all, bits) {
			expectPack(t, nil, bits, "", api.ErrArg)
			expectPack(t, []int{0, 1}, bits, "", api.ErrArg)
			expectPack(t, []int{-1}, bits, "", api.ErrArg)
		}
	}
	for _, bits := range []int{math.MinInt, math.MaxInt, 1<<32 + 8, -1<<32 + 1} {
		expectPack(t, []int{0}, bits, "", api.ErrArg)
	}
	for _, bits := range all {
		for _, v := range []int{-1, math.MinInt, math.MinInt + 1, 1 << bits, 1<<bits + 1, -1 << bits, 1 << 40, math.MaxInt} {
			for n := range 12 {
				for at := range n {
					l := make([]int, n)
					l[at] = v
					expectPack(t, l, bits, "", api.ErrRange)
				}
			}
		}
	}
}

// P21.1: rows that were packed are read as they were.
func TestPackedRows(t *testing.T) {
	rand := random()
	for _, p := range pictures(t, 40, 2) {
		h := p.head
		var s string
		l := make([]int, h.Width*h.Height)
		for k := range h.Height {
			for x := range h.Width {
				l[k*h.Width+x] = rand(1 << h.Depth)
			}
			row, e := Pack(l[k*h.Width:][:h.Width], h.Depth)
			if e != api.OK || len(row) != h.Stride() {
				t.Fatalf("%+v: %q, %d", h, row, e)
			}
			s += row
		}
		r, _ := raster.New(free(), h.Width, h.Height)
		if f := Rows(source(t, free(), s), h, pal(t, p.entries), p.set, r, api.BMP); f != (api.Fault{}) {
			t.Fatalf("%+v: %+v", h, f)
		}
		for i, v := range l {
			y := i / h.Width
			if !h.Top {
				y = h.Height - 1 - y
			}
			if got, _ := r.Get(i%h.Width, y); got != p.meant(v) {
				t.Fatalf("%+v: %d is %v", h, v, got)
			}
		}
	}
}

// meant is the colour of a pixel's number.
func (p picture) meant(v int) api.Color {
	switch {
	case p.head.Depth <= 8:
		return p.entries[v]
	case p.head.Depth == 24:
		return api.Color{R: uint8(v >> 16), G: uint8(v >> 8), B: uint8(v), A: 255}
	}
	return p.set.Color(v)
}

// P21.1: of what layer 20 doesn't tell no more is promised than that the calls end.
func TestEnds(t *testing.T) {
	for _, depth := range []int{math.MinInt, -8, 0, 2, 7, 8, 9, 15, 33, 64, math.MaxInt} {
		for _, colors := range []int{math.MinInt, -1, 0, 1, 70000, math.MaxInt} {
			for _, size := range []int{0, 12, 40} {
				h := dibhead.Head{Size: size, Width: 3, Height: 2, Depth: depth, Colors: colors}
				if p, _ := Table(source(t, budget(1000, 1000), run(50)), h, api.BMP); p != nil {
					p.Free()
				}
				r, _ := raster.New(free(), 2, 1)
				Rows(source(t, budget(1000, 1000), run(50)), h, nil, mask.Set{}, r, api.BMP)
			}
		}
	}
}
