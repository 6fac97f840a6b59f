package tgarle

import (
	"math"
	"slices"
	"strings"
	"testing"

	"tintype/api"
	"tintype/ledger"
	"tintype/palette"
	"tintype/raster"
	"tintype/src"
	"tintype/tgahead"
	"tintype/tgapix"
)

// random tells numbers below n, of a seed of its own.
func random(seed uint64) func(n int) int {
	return func(n int) int {
		seed = seed*6364136223846793005 + 1442695040888963407
		return int(seed>>33) % n
	}
}

// budget is a ledger that lets all sides and bytes, and so many steps.
func budget(steps int) *ledger.Ledger {
	return ledger.New(api.Budget{MaxWidth: math.MaxInt, MaxHeight: math.MaxInt, MaxBytes: math.MaxInt, MaxWork: steps})
}

func source(t *testing.T, l *ledger.Ledger, s string) *src.Src {
	t.Helper()
	x, e := src.New(l, s)
	if e != api.OK {
		t.Fatalf("no source of %.40q: %d", s, e)
	}
	return x
}

func canvas(t *testing.T, l *ledger.Ledger, h tgahead.Head) *raster.Raster {
	t.Helper()
	r, e := raster.New(l, h.Width, h.Height)
	if e != api.OK {
		t.Fatalf("no raster for %+v: %d", h, e)
	}
	return r
}

func wrong(kind, at int) api.Fault {
	return api.Fault{Kind: kind, Format: api.TGA, At: at}
}

// layouts are heads of all types, with all bits of a pixel and of alpha.
var layouts = []tgahead.Head{
	{Type: 1, Depth: 8, Map: true, First: 2, Count: 3, Entry: 24},
	{Type: 9, Depth: 8, Map: true, First: 2, Count: 3, Entry: 24},
	{Type: 2, Depth: 15},
	{Type: 2, Depth: 16},
	{Type: 2, Depth: 16, Alpha: 1},
	{Type: 2, Depth: 24},
	{Type: 2, Depth: 32},
	{Type: 2, Depth: 32, Alpha: 8},
	{Type: 10, Depth: 15},
	{Type: 10, Depth: 16, Alpha: 1},
	{Type: 10, Depth: 24},
	{Type: 10, Depth: 32},
	{Type: 10, Depth: 32, Alpha: 8},
	{Type: 3, Depth: 8},
	{Type: 11, Depth: 8},
	{Type: 3, Depth: 8, Map: true, First: 9, Count: 1, Entry: 16},
}

// entries are a map's that layouts of the types 1 and 9 have.
func entries(t *testing.T) *palette.Palette {
	t.Helper()
	p, e := palette.New(budget(math.MaxInt), 3)
	if e != api.OK {
		t.Fatalf("no palette: %d", e)
	}
	for _, c := range mapped {
		p.Add(c)
	}
	return p
}

var mapped = []api.Color{{R: 1, G: 2, B: 3, A: 255}, {R: 4, G: 5, B: 6, A: 255}, {R: 7, G: 8, B: 9, A: 255}}

// pixelSize is how many bytes a pixel of a head has.
func pixelSize(h tgahead.Head) int { return (h.Depth + 7) / 8 }

// meant is the colour of a pixel's bytes; false: there is none.
func meant(b string, h tgahead.Head) (api.Color, bool) {
	switch h.Type {
	case 2, 10:
		return tgapix.Color(b, h.Depth, h.Alpha)
	case 3, 11:
		return api.Color{R: b[0], G: b[0], B: b[0], A: 255}, true
	}
	i := int(b[0]) - h.First
	if i < 0 || i >= len(mapped) {
		return api.Color{}, false
	}
	return mapped[i], true
}

// model goes over a text by the chapter's words, a step at a time.
type model struct {
	text            string
	at, steps, most int
	pix             []api.Color // by the numbers that pixels have in the file
	f               api.Fault
}

// work does a step; false: it is refused.
func (m *model) work() bool {
	if m.steps == m.most {
		m.f = wrong(api.Spent, m.at)
		return false
	}
	m.steps++
	return true
}

// take is a reading.
func (m *model) take(n int) (string, bool) {
	if !m.work() {
		return "", false
	}
	if n > len(m.text)-m.at {
		m.f = wrong(api.Truncated, len(m.text))
		return "", false
	}
	m.at += n
	return m.text[m.at-n : m.at], true
}

// pixel reads a pixel that stands n times.
func (m *model) pixel(h tgahead.Head, n int) bool {
	at := m.at
	b, ok := m.take(pixelSize(h))
	if !ok {
		return false
	}
	c, ok := meant(b, h)
	if !ok {
		m.f = wrong(api.Malformed, at)
		return false
	}
	for range n {
		if !m.work() {
			return false
		}
		m.pix = append(m.pix, c)
	}
	return true
}

// packet reads one.
func (m *model) packet(h tgahead.Head) bool {
	at := m.at
	b, ok := m.take(1)
	if !ok {
		return false
	}
	n := int(b[0])%128 + 1
	if len(m.pix)+n > h.Width*h.Height {
		m.f = wrong(api.Malformed, at)
		return false
	}
	if b[0] >= 128 {
		return m.pixel(h, n)
	}
	for range n {
		if !m.pixel(h, 1) {
			return false
		}
	}
	return true
}

// all reads all pixels.
func (m *model) all(h tgahead.Head) {
	for len(m.pix) < h.Width*h.Height {
		ok := false
		if h.Type > 8 {
			ok = m.packet(h)
		} else {
			ok = m.pixel(h, 1)
		}
		if !ok {
			return
		}
	}
}

// places are those of all pixels in the file's order.
func places(h tgahead.Head) (l [][2]int) {
	for y := range h.Height {
		for x := range h.Width {
			at := [2]int{x, y}
			if h.Left {
				at[0] = h.Width - 1 - x
			}
			if !h.Top {
				at[1] = h.Height - 1 - y
			}
			l = append(l, at)
		}
	}
	return l
}

// expect holds what Read makes of a text, by so many steps, against the model: the fault, the place, the steps and all pixels, also such as weren't read.
func expect(t *testing.T, text string, h tgahead.Head, steps int) api.Fault {
	t.Helper()
	want := model{text: text, most: steps}
	want.all(h)
	l := budget(steps)
	s, r := source(t, l, text), canvas(t, l, h)
	bytes := l.Bytes()
	f := Read(s, h, entries(t), r)
	if f != want.f || s.At() != want.at || l.Steps() != want.steps || l.Bytes() != bytes || l.Peak() != bytes {
		t.Fatalf("%+v, %.60q, %d steps: %+v at %d, %d steps, not %+v at %d, %d steps", h, text, steps, f, s.At(), l.Steps(), want.f, want.at, want.steps)
	}
	for k, at := range places(h) {
		var c api.Color
		if k < len(want.pix) {
			c = want.pix[k]
		}
		if got, ok := r.Get(at[0], at[1]); got != c || !ok {
			t.Fatalf("%+v, %.60q, %d steps: number %d at %v is %v, not %v", h, text, steps, k, at, got, c)
		}
	}
	return f
}

// with is a layout with sides, and an order.
func with(h tgahead.Head, width, height, order int) tgahead.Head {
	h.Width, h.Height = width, height
	h.Left, h.Top = order&1 != 0, order&2 != 0
	return h
}

// packed tells whether a layout's pixels stand in packets.
func packed(h tgahead.Head) bool { return h.Type > 8 }

// someBytes are so many pixels' bytes, none like those beside it; of a map they are numbers of entries.
func someBytes(h tgahead.Head, n int) []string {
	var l []string
	for k := range n {
		b := make([]byte, pixelSize(h))
		for i := range b {
			b[i] = byte(k*89 + k/256*7 + i*53 + 1)
			if h.Type == 1 || h.Type == 9 {
				b[i] = byte(h.First + k%3)
			}
		}
		l = append(l, string(b))
	}
	return l
}

// literally is packets of so many pixels each, none of them again.
func literally(l []string, counts ...int) string {
	text := ""
	for _, n := range counts {
		text += string([]byte{byte(n - 1)}) + strings.Join(l[:n], "")
		l = l[n:]
	}
	return text
}

// P18.1: pixels without packets, of all types and bits, in all four orders.
func TestPlain(t *testing.T) {
	for _, h := range layouts {
		if packed(h) {
			continue
		}
		for _, sides := range [][2]int{{1, 1}, {1, 5}, {5, 1}, {2, 2}, {3, 2}, {4, 7}, {130, 2}} {
			for order := range 4 {
				h := with(h, sides[0], sides[1], order)
				text := strings.Join(someBytes(h, h.Width*h.Height), "")
				for _, tail := range []string{"", "\xff", "\x00\x00\x00\x00\x00\x00"} {
					if f := expect(t, text+tail, h, math.MaxInt); f != (api.Fault{}) {
						t.Errorf("%+v: %+v", h, f)
					}
				}
			}
		}
	}
}

// P18.1: one pixel of four bytes, and two of a map, by hand.
func TestByHand(t *testing.T) {
	l := budget(100)
	r, _ := raster.New(l, 2, 2)
	h := tgahead.Head{Type: 10, Width: 2, Height: 2, Depth: 24}
	f := Read(source(t, l, "\x82abc\x00xyz!"), h, nil, r)
	row, _ := r.Row(0)
	last, _ := r.Row(1)
	if f != (api.Fault{}) || last != "cba\xffcba\xff" || row != "cba\xffzyx\xff" || l.Steps() != 8 {
		t.Errorf("%+v, %q, %q, %d steps", f, row, last, l.Steps())
	}
	h = tgahead.Head{Type: 9, Map: true, First: 2, Count: 3, Entry: 24, Width: 2, Height: 2, Depth: 8, Top: true, Left: true}
	f = Read(source(t, l, "\x03\x04\x03\x02\x03"), h, entries(t), r)
	row, _ = r.Row(0)
	last, _ = r.Row(1)
	if f != (api.Fault{}) || row != "\x04\x05\x06\xff\x07\x08\x09\xff" || last != "\x04\x05\x06\xff\x01\x02\x03\xff" {
		t.Errorf("%+v, %q, %q", f, row, last)
	}
}

// P18.1: packets of each count, of both kinds, and others behind them: they go on over the ends of rows; what stands behind the last pixel isn't looked at.
func TestPackets(t *testing.T) {
	for _, h := range layouts {
		if !packed(h) {
			continue
		}
		for n := 1; n <= 128; n++ {
			h := with(h, 43, 3, n%4)
			l := someBytes(h, 129)
			for _, text := range []string{
				literally(l, n, 129-n),
				string([]byte{byte(127 + n)}) + l[0] + literally(l, 129-n),
				literally(l, 129-n) + string([]byte{byte(127 + n)}) + l[0],
				string([]byte{byte(127 + n)}) + l[0] + string([]byte{byte(127 + 129 - n)}) + l[1],
			} {
				for _, tail := range []string{"", "\x00", "\xff"} {
					if f := expect(t, text+tail, h, math.MaxInt); f != (api.Fault{}) {
						t.Errorf("%+v: %+v", h, f)
					}
				}
			}
		}
	}
}

// P18.1: all sides, so that packets end at a row's end, ahead of it and behind it, in all four orders.
func TestPacketSides(t *testing.T) {
	for width := 1; width <= 6; width++ {
		for height := 1; height <= 5; height++ {
			for order := range 4 {
				h := with(tgahead.Head{Type: 10, Depth: 24}, width, height, order)
				n := width * height
				l := someBytes(h, n)
				for size := 1; size <= n; size++ {
					text, runs := "", ""
					for from := 0; from < n; from += size {
						count := min(size, n-from)
						text += literally(l[from:], count)
						runs += string([]byte{byte(127 + count)}) + l[from]
					}
					if f := expect(t, text, h, math.MaxInt); f != (api.Fault{}) {
						t.Errorf("%+v: %+v", h, f)
					}
					if f := expect(t, runs, h, math.MaxInt); f != (api.Fault{}) {
						t.Errorf("%+v: %+v", h, f)
					}
				}
			}
		}
	}
}

// P18.1: a packet that stands for more pixels than lack is Malformed at its first byte, also where its pixels aren't there.
func TestTooMany(t *testing.T) {
	h := with(tgahead.Head{Type: 11, Depth: 8}, 3, 1, 0)
	for text, f := range map[string]api.Fault{
		"\x83a":           wrong(api.Malformed, 0),
		"\x83":            wrong(api.Malformed, 0),
		"\xff":            wrong(api.Malformed, 0),
		"\x03abcd":        wrong(api.Malformed, 0),
		"\x03":            wrong(api.Malformed, 0),
		"\x7f":            wrong(api.Malformed, 0),
		"\x81a\x81b":      wrong(api.Malformed, 2),
		"\x81a\x81":       wrong(api.Malformed, 2),
		"\x81a\x01bc":     wrong(api.Malformed, 2),
		"\x01ab\x81":      wrong(api.Malformed, 3),
		"\x00a\x00b\x81c": wrong(api.Malformed, 4),
		"\x82a":           {},
		"\x81a\x80b":      {},
		"\x81a\x00b":      {},
		"\x81a\x00b\xff":  {},
		"\x02abc":         {},
		"":                wrong(api.Truncated, 0),
		"\x82":            wrong(api.Truncated, 1),
		"\x02ab":          wrong(api.Truncated, 3),
		"\x81a":           wrong(api.Truncated, 2),
	} {
		if got := expect(t, text, h, math.MaxInt); got != f {
			t.Errorf("%q: %+v, not %+v", text, got, f)
		}
	}
	for n := 1; n <= 128; n++ {
		h := with(tgahead.Head{Type: 10, Depth: 16}, n, 1, 0)
		for count := 1; count <= 128; count++ {
			f := expect(t, string([]byte{byte(127 + count)})+"xy", h, math.MaxInt)
			if (count > n) != (f == wrong(api.Malformed, 0)) || (count == n) != (f == api.Fault{}) {
				t.Errorf("%d of %d: %+v", count, n, f)
			}
		}
	}
}

// P18.1: a number that no entry has is Malformed at its byte, without packets and in both kinds of them; the pixels ahead of it were read.
func TestNoEntry(t *testing.T) {
	plain := with(tgahead.Head{Type: 1, Depth: 8, Map: true, First: 2, Count: 3, Entry: 24}, 2, 2, 0)
	packets := plain
	packets.Type = 9
	for _, b := range []string{"\x00", "\x01", "\x05", "\x80", "\xff"} {
		for text, at := range map[string]int{"" + b: 0, "\x02\x03" + b: 2, "\x02\x03\x04" + b: 3} {
			if f := expect(t, text+"\x02\x02\x02", plain, math.MaxInt); f != wrong(api.Malformed, at) {
				t.Errorf("%q: %+v", text, f)
			}
		}
		for text, at := range map[string]int{"\x80" + b: 1, "\x81" + b: 1, "\x03" + b: 1, "\x03\x02\x03" + b: 3, "\x81\x02\x01\x03" + b: 4, "\x81\x02\x81" + b: 3} {
			if f := expect(t, text+"\x02\x02\x02", packets, math.MaxInt); f != wrong(api.Malformed, at) {
				t.Errorf("%q: %+v", text, f)
			}
		}
	}
}

// files are a text of each layout, with packets of both kinds.
func files(each func(h tgahead.Head, text string)) {
	for i, h := range layouts {
		h := with(h, 4, 3, i%4)
		l := someBytes(h, 12)
		text := strings.Join(l, "")
		if packed(h) {
			text = literally(l, 3) + "\x81" + l[3] + "\x84" + l[5] + literally(l[10:], 2)
		}
		each(h, text)
	}
}

// P18.1: a text that is cut off anywhere is Truncated at its end.
func TestCutOff(t *testing.T) {
	files(func(h tgahead.Head, text string) {
		for n := range len(text) {
			if f := expect(t, text[:n], h, math.MaxInt); f != wrong(api.Truncated, n) {
				t.Errorf("%+v, %q: %+v", h, text[:n], f)
			}
		}
		if f := expect(t, text, h, math.MaxInt); f != (api.Fault{}) {
			t.Errorf("%+v: %+v", h, f)
		}
	})
}

// P18.1: by each number of steps it is Spent at the source's place, until they are enough: each first byte, each pixel's bytes and each pixel is one.
func TestSteps(t *testing.T) {
	files(func(h tgahead.Head, text string) {
		whole := model{text: text, most: math.MaxInt}
		whole.all(h)
		need := 2 * 12
		if packed(h) {
			need = 4 + 7 + 12
		}
		if whole.steps != need {
			t.Fatalf("%+v: the model does %d steps", h, whole.steps)
		}
		for steps := range need + 3 {
			if f := expect(t, text, h, steps); (f == api.Fault{}) != (steps >= need) || steps < need && f.Kind != api.Spent {
				t.Errorf("%+v by %d steps: %+v", h, steps, f)
			}
		}
	})
}

// P18.1: of what is wrong, the first thing in the order in which it is gone through is told, by any number of steps.
func TestOrder(t *testing.T) {
	h := with(tgahead.Head{Type: 9, Depth: 8, Map: true, First: 2, Count: 3, Entry: 24}, 3, 2, 0)
	for _, text := range []string{"\x81\x02\x01\x03\x09\x80\x02", "\x81\x09\xff", "\x02\x02\x03", "\x82\x02\x83", "\x82\x02\x01\x02", "\x84\x02\x81\x09", "\x85", "\x86"} {
		for steps := range 20 {
			expect(t, text, h, steps)
		}
	}
}

// P18.1: the raster's own ledger may refuse a pixel's step, too, while the source's lets all.
func TestOtherLedger(t *testing.T) {
	files(func(h tgahead.Head, text string) {
		for steps := range 12 {
			s, r := source(t, budget(math.MaxInt), text), canvas(t, budget(steps), h)
			f := Read(s, h, entries(t), r)
			if f != wrong(api.Spent, s.At()) {
				t.Errorf("%+v by %d steps: %+v at %d", h, steps, f, s.At())
			}
		}
		s, r := source(t, budget(math.MaxInt), text), canvas(t, budget(12), h)
		if f := Read(s, h, entries(t), r); f != (api.Fault{}) || s.Left() != 0 {
			t.Errorf("%+v: %+v", h, f)
		}
	})
}

// P18.1: it reads from the source's place on, and not over what a window goes over; places are those of the whole text.
func TestPlace(t *testing.T) {
	files(func(h tgahead.Head, text string) {
		whole := "123" + text + "456"
		s := source(t, budget(math.MaxInt), whole)
		s.Seek(3)
		if f := Read(s, h, entries(t), canvas(t, budget(99), h)); f != (api.Fault{}) || s.At() != 3+len(text) {
			t.Errorf("%+v: %+v at %d", h, f, s.At())
		}
		w, _ := s.Window(3, len(text)-1)
		if f := Read(w, h, entries(t), canvas(t, budget(99), h)); f != wrong(api.Truncated, 2+len(text)) {
			t.Errorf("%+v: %+v", h, f)
		}
	})
	h := with(tgahead.Head{Type: 11, Depth: 8}, 1, 1, 0)
	s := source(t, budget(9), "12\x81")
	s.Seek(2)
	if f := Read(s, h, nil, canvas(t, budget(99), h)); f != wrong(api.Malformed, 2) {
		t.Errorf("%+v", f)
	}
}

// P18.1: any bytes, by any budget, are what the model makes of them.
func TestAnyBytes(t *testing.T) {
	next := random(18)
	for range 20000 {
		h := with(layouts[next(len(layouts))], 1+next(20), 1+next(12), next(4))
		b := make([]byte, next(120))
		for i := range b {
			b[i] = byte(next(256))
			if next(3) > 0 {
				b[i] = []byte{0, 1, 2, 3, 4, 5, 0x80, 0x81, 0x82, 0x83, 0x90, 0xff, 0x7f}[next(13)]
			}
		}
		steps := math.MaxInt
		if next(2) == 0 {
			steps = next(300)
		}
		expect(t, string(b), h, steps)
	}
}

// P18.1: a great image, all of one packet again and again.
func TestGreat(t *testing.T) {
	h := with(tgahead.Head{Type: 10, Depth: 32, Alpha: 8}, api.MaxSide, 3, 0)
	n := h.Width * h.Height / 128
	if f := expect(t, strings.Repeat("\xffabcd", n), h, math.MaxInt); f != (api.Fault{}) {
		t.Error(f)
	}
	if f := expect(t, strings.Repeat("\xffabcd", n-1)+"\xfeabcd\x81wxyz", h, math.MaxInt); f != wrong(api.Malformed, 5*n) {
		t.Error(f)
	}
}

// P18.1: a head that layer 16 doesn't tell, or a raster with other sides, ends without a panic.
func TestStrange(t *testing.T) {
	next := random(5)
	odd := []int{math.MinInt, -1, 0, 1, 2, 3, 8, 9, 10, 11, 15, 16, 24, 32, 255, 1 << 40, math.MaxInt}
	pick := func() int { return odd[next(len(odd))] }
	for range 20000 {
		h := tgahead.Head{Name: pick(), Map: next(2) == 0, Type: pick(), First: pick(), Count: pick(), Entry: pick(), Width: pick(), Height: pick(), Depth: pick(), Alpha: pick(), Left: next(2) == 0, Top: next(2) == 0}
		p := entries(t)
		if next(3) == 0 {
			p = nil
		}
		r, _ := raster.New(budget(math.MaxInt), 3, 2)
		Read(source(t, budget(1000), "\x81\x02\x00\x03\x80\x04\x02\x02\x02\x02abcdefghij"), h, p, r)
	}
}

// P18.1: the chapter's example, and others by hand.
func TestPackByHand(t *testing.T) {
	for _, x := range []struct{ pixels, want string }{
		{"", ""},
		{"aaab", "\x82a\x00b"},
		{"a", "\x00a"},
		{"ab", "\x01ab"},
		{"aa", "\x81a"},
		{"abb", "\x00a\x81b"},
		{"abcc", "\x01ab\x81c"},
		{"aabb", "\x81a\x81b"},
		{"aba", "\x02aba"},
		{"abab", "\x03abab"},
		{"aabab", "\x81a\x02bab"},
		{"abbba", "\x00a\x82b\x00a"},
		{strings.Repeat("a", 127), "\xfea"},
		{strings.Repeat("a", 128), "\xffa"},
		{strings.Repeat("a", 129), "\xffa\x00a"},
		{strings.Repeat("a", 130), "\xffa\x81a"},
		{strings.Repeat("a", 129) + "b", "\xffa\x01ab"},
		{strings.Repeat("a", 256), "\xffa\xffa"},
		{strings.Repeat("ab", 64), "\x7f" + strings.Repeat("ab", 64)},
		{strings.Repeat("ab", 64) + "a", "\x7f" + strings.Repeat("ab", 64) + "\x00a"},
		{strings.Repeat("ab", 64) + "b", "\x7e" + strings.Repeat("ab", 63) + "a\x81b"},
		{strings.Repeat("ab", 64) + "aa", "\x7f" + strings.Repeat("ab", 64) + "\x81a"},
		{strings.Repeat("ab", 63) + "aa", "\x7d" + strings.Repeat("ab", 63) + "\x81a"},
	} {
		if got := Pack(strings.Split(x.pixels, "")); got != x.want {
			t.Errorf("%.140q: %q, not %q", x.pixels, got, x.want)
		}
	}
	if got := Pack(nil); got != "" {
		t.Errorf("%q", got)
	}
	if got := Pack([]string{"", "", "xyz", "xyz", "x", "yz", "", "abcdef"}); got != "\x81\x81xyz\x03xyzabcdef" {
		t.Errorf("%q", got)
	}
}

// words packs pixels as the chapter says it, a packet at a time.
func words(l []string) string {
	text := ""
	for at := 0; at < len(l); {
		two := func(i int) bool { return i+1 < len(l) && l[i] == l[i+1] }
		n := 1
		if two(at) {
			for n < 128 && two(at+n-1) {
				n++
			}
			text += string([]byte{byte(128 + n - 1)}) + l[at]
		} else {
			for n < 128 && at+n < len(l) && !two(at+n) {
				n++
			}
			text += string([]byte{byte(n - 1)}) + strings.Join(l[at:at+n], "")
		}
		at += n
	}
	return text
}

// expectPack holds Pack of pixels against the chapter's words, and what is told of the packets against the pixels.
func expectPack(t *testing.T, l []string, size int) {
	t.Helper()
	had := slices.Clone(l)
	text := Pack(l)
	if want := words(l); text != want {
		t.Fatalf("%.200q: %.200q, not %.200q", l, text, want)
	}
	if !slices.Equal(l, had) {
		t.Fatalf("%.200q: they were changed: %.200q", had, l)
	}
	for _, tail := range []string{"", "\x00", "\xff"} {
		got, end, e := Packets(text+tail, size, len(l))
		if !slices.Equal(got, l) || end != len(text) || e != api.OK {
			t.Fatalf("%.200q: %.200q, %d, %d", text, got, end, e)
		}
	}
}

// P18.1, P18.2: all short lists of three pixels, of each size; they come back.
func TestPackShort(t *testing.T) {
	for size := 1; size <= 4; size++ {
		pixels := []string{"abcd"[:size], "abce"[4-size:], "xyzx"[:size]}
		for n := range 8 {
			count := 1
			for range n {
				count *= 3
			}
			for v := range count {
				var l []string
				for range n {
					l = append(l, pixels[v%3])
					v /= 3
				}
				expectPack(t, l, size)
			}
		}
	}
}

// P18.1, P18.2: as many that are one, and as many that aren't, as there can be, one behind the other; they come back.
func TestPackLong(t *testing.T) {
	other := func(n int) (l []string) {
		for k := range n {
			l = append(l, string([]byte{byte(k), byte(k % 7)}))
		}
		return l
	}
	for n := range 300 {
		one := slices.Repeat([]string{"!!"}, n)
		expectPack(t, one, 2)
		expectPack(t, other(n), 2)
		expectPack(t, slices.Concat(other(n), one), 2)
		expectPack(t, slices.Concat(one, other(n)), 2)
		expectPack(t, slices.Concat(other(n), []string{"!!", "!!"}, other(3)), 2)
		expectPack(t, slices.Concat(other(n), []string{"!!", "!!", "!!"}), 2)
		expectPack(t, slices.Concat(one, other(1), one), 2)
		expectPack(t, slices.Concat(one, []string{"??", "??"}), 2)
	}
}

// P18.2: any pixels, of each size, come back; as many packets as that are read as them.
func TestBack(t *testing.T) {
	next := random(2)
	for range 3000 {
		size := 1 + next(4)
		var l []string
		for range next(40) {
			b := make([]byte, size)
			for i := range b {
				b[i] = byte(next(3) * 127)
			}
			l = append(l, slices.Repeat([]string{string(b)}, 1+next(3)*next(100))...)
		}
		expectPack(t, l, size)
		if size == 1 || len(l) == 0 {
			continue
		}
		h := with(tgahead.Head{Type: 10, Depth: 8 * size}, len(l), 1, 2)
		if f := expect(t, Pack(l), h, math.MaxInt); f != (api.Fault{}) {
			t.Fatalf("%q: %+v", l, f)
		}
	}
}

// expectPackets holds the answer of Packets against what it should be.
func expectPackets(t *testing.T, s string, size, n int, l []string, end int, e api.Errno) {
	t.Helper()
	got, at, g := Packets(s, size, n)
	if !slices.Equal(got, l) || at != end || g != e {
		t.Errorf("%.60q, %d, %d: %.60q, %d, %d, not %.60q, %d, %d", s, size, n, got, at, g, l, end, e)
	}
	if e != api.OK && got != nil {
		t.Errorf("%.60q, %d, %d: beside %d there is a list", s, size, n, e)
	}
}

// P18.1: packets by hand, also such as Pack doesn't make.
func TestPacketsByHand(t *testing.T) {
	expectPackets(t, "\x82a\x00b", 1, 4, []string{"a", "a", "a", "b"}, 4, api.OK)
	expectPackets(t, "\x82a\x00b", 1, 3, []string{"a", "a", "a"}, 2, api.OK)
	expectPackets(t, "\x80a\x80a", 1, 2, []string{"a", "a"}, 4, api.OK)
	expectPackets(t, "\x01aa", 1, 2, []string{"a", "a"}, 3, api.OK)
	expectPackets(t, "\x00abc\x81def", 3, 3, []string{"abc", "def", "def"}, 8, api.OK)
	expectPackets(t, "\x81abcd!", 4, 2, []string{"abcd", "abcd"}, 5, api.OK)
	for size := 1; size <= 4; size++ {
		for _, s := range []string{"", "\x00", "\xff", "abc"} {
			expectPackets(t, s, size, 0, nil, 0, api.OK)
		}
	}
}

// P18.1: what isn't there, or is too much, packet by packet; ahead of all what no call may ask.
func TestPacketsWrong(t *testing.T) {
	for _, x := range []struct {
		s       string
		size, n int
		e       api.Errno
	}{
		{"", 1, 1, api.ErrShort},
		{"", 1, math.MaxInt, api.ErrShort},
		{"\x82a", 1, 4, api.ErrShort},
		{"\x82a", 1, math.MaxInt, api.ErrShort},
		{"\x82", 1, 3, api.ErrShort},
		{"\x82", 1, 2, api.ErrSize},
		{"\x82a", 1, 2, api.ErrSize},
		{"\x02abc", 1, 2, api.ErrSize},
		{"\x02", 1, 2, api.ErrSize},
		{"\x02ab", 1, 3, api.ErrShort},
		{"\x02ab", 1, 4, api.ErrShort},
		{"\x00a\x00b\x00", 1, 3, api.ErrShort},
		{"\x00a\x00b\x01", 1, 3, api.ErrSize},
		{"\x00a\x00b", 1, 3, api.ErrShort},
		{"\x00ab", 3, 1, api.ErrShort},
		{"\x80abc", 4, 1, api.ErrShort},
		{"\x01abcdefg", 4, 2, api.ErrShort},
		{"\x00a", 0, 1, api.ErrArg},
		{"\x00a", 5, 1, api.ErrArg},
		{"\x00a", -1, 1, api.ErrArg},
		{"\x00a", math.MinInt, 1, api.ErrArg},
		{"\x00a", math.MaxInt, 1, api.ErrArg},
		{"\x00a", 1 << 32, 1, api.ErrArg},
		{"\x00a", 1<<32 + 1, 1, api.ErrArg},
		{"\x00a", 1, -1, api.ErrArg},
		{"\x00a", 1, math.MinInt, api.ErrArg},
		{"", 0, 0, api.ErrArg},
		{"", 5, 0, api.ErrArg},
		{"", 1, -1, api.ErrArg},
		{"", 0, -1, api.ErrArg},
	} {
		expectPackets(t, x.s, x.size, x.n, nil, 0, x.e)
	}
}

// packetsModel goes over packets by the chapter's words.
func packetsModel(s string, size, n int) ([]string, int, api.Errno) {
	var l []string
	at := 0
	for len(l) < n {
		if at >= len(s) {
			return nil, 0, api.ErrShort
		}
		first := int(s[at])
		count := first%128 + 1
		if len(l)+count > n {
			return nil, 0, api.ErrSize
		}
		at++
		bytes := count * size
		if first >= 128 {
			bytes = size
		}
		if at+bytes > len(s) {
			return nil, 0, api.ErrShort
		}
		for k := range count {
			from := at
			if first < 128 {
				from += k * size
			}
			l = append(l, s[from:from+size])
		}
		at += bytes
	}
	return l, at, api.OK
}

// P18.1: packets of any bytes.
func TestPacketsAny(t *testing.T) {
	next := random(9)
	for range 50000 {
		b := make([]byte, next(60))
		for i := range b {
			b[i] = byte(next(256))
			if next(4) > 0 {
				b[i] = []byte{0, 1, 2, 3, 0x80, 0x81, 0x82, 0x83}[next(8)]
			}
		}
		size, n := 1+next(4), next(30)
		l, end, e := packetsModel(string(b), size, n)
		expectPackets(t, string(b), size, n, l, end, e)
	}
}

// P18.1: each first byte, with as many pixels as lack, one less and one more.
func TestPacketsCounts(t *testing.T) {
	for first := range 256 {
		count := first%128 + 1
		for size := 1; size <= 4; size++ {
			s := string([]byte{byte(first)}) + strings.Join(someBytes(tgahead.Head{Type: 2, Depth: 8 * size}, 128), "")
			for n := max(count-1, 1); n <= count+1; n++ {
				l, end, e := packetsModel(s[:1+size], size, n)
				expectPackets(t, s[:1+size], size, n, l, end, e)
				l, end, e = packetsModel(s, size, n)
				expectPackets(t, s, size, n, l, end, e)
				for _, cut := range []int{1, size, count*size - 1, count * size, count*size + 1} {
					l, end, e := packetsModel(s[:min(1+cut, len(s))], size, n)
					expectPackets(t, s[:min(1+cut, len(s))], size, n, l, end, e)
				}
			}
		}
	}
}

// P18.1: a list that is told is the caller's: another answer has its own.
func TestPacketsNew(t *testing.T) {
	one, _, _ := Packets("\x82a\x00b", 1, 4)
	other, _, _ := Packets("\x82a\x00b", 1, 4)
	one[0] = "x"
	if other[0] != "a" {
		t.Error("they share their items")
	}
}
