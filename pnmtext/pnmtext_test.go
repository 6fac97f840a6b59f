package pnmtext

import (
	"math"
	"math/rand"
	"strconv"
	"strings"
	"testing"

	"tintype/api"
	"tintype/ledger"
	"tintype/pnmhead"
	"tintype/raster"
	"tintype/src"
)

// noKinds are numbers that no kind of text has.
var noKinds = []int{math.MinInt, -1 << 32, -256, -3, -2, -1, 0, 4, 5, 6, 7, '1', '2', '3', 255, 257, 1<<32 + 1, 1<<32 + 2, math.MaxInt}

// free is a ledger that lets everything.
func free() *ledger.Ledger {
	return ledger.New(api.Budget{MaxWidth: math.MaxInt, MaxHeight: math.MaxInt, MaxBytes: math.MaxInt, MaxWork: math.MaxInt})
}

// working is a ledger that lets so many steps.
func working(steps int) *ledger.Ledger {
	return ledger.New(api.Budget{MaxWidth: math.MaxInt, MaxHeight: math.MaxInt, MaxBytes: math.MaxInt, MaxWork: steps})
}

func source(t *testing.T, l *ledger.Ledger, text string) *src.Src {
	t.Helper()
	s, e := src.New(l, text)
	if e != api.OK {
		t.Fatalf("no source: %d", e)
	}
	return s
}

func canvas(t *testing.T, l *ledger.Ledger, h pnmhead.Head) *raster.Raster {
	t.Helper()
	r, e := raster.New(l, h.Width, h.Height)
	if e != api.OK {
		t.Fatalf("no raster of %+v: %d", h, e)
	}
	return r
}

func fault(kind, at int) api.Fault {
	return api.Fault{Kind: kind, Format: api.PNM, At: at}
}

func grey(v uint8) api.Color { return api.Color{R: v, G: v, B: v, A: 255} }

var (
	black = grey(0)
	white = grey(255)
)

// nearest is a sample as eight bits: the nearest of all numbers, of two as near the greater one.
func nearest(v, most int) uint8 {
	best, least := 0, math.MaxInt
	for k := range 256 {
		far := k*most - v*255
		if far < 0 {
			far = -far
		}
		if far <= least {
			best, least = k, far
		}
	}
	return uint8(best)
}

// expect holds all pixels of a raster against those that it should have.
func expect(t *testing.T, name string, r *raster.Raster, want []api.Color) {
	t.Helper()
	for i, c := range want {
		if got, ok := r.Get(i%r.Width(), i/r.Width()); got != c || !ok {
			t.Fatalf("%s: pixel %d is %v, %t, not %v", name, i, got, ok, c)
		}
	}
}

// read reads all of a text, with steps enough.
func read(t *testing.T, text string, h pnmhead.Head) (*raster.Raster, int, api.Fault) {
	t.Helper()
	s := source(t, free(), text)
	r := canvas(t, free(), h)
	f := Read(s, h, r)
	return r, s.At(), f
}

// P13.1: the chapter's example, read and written.
func TestExample(t *testing.T) {
	r, _, f := read(t, "1 0\n", pnmhead.Head{Kind: 1, Width: 2, Height: 1, Most: 1})
	if f != (api.Fault{}) {
		t.Fatal(f)
	}
	expect(t, "example", r, []api.Color{black, white})
	m, _ := r.Image()
	if text, e := Write(m, 1); text != "P1\n2 1\n1 0\n" || e != api.OK {
		t.Errorf("%q, %d", text, e)
	}
}

// P13.1: pixels of all kinds, with what may stand between; what stands behind the last one isn't read.
func TestRead(t *testing.T) {
	for _, x := range []struct {
		text   string
		h      pnmhead.Head
		behind int
		want   []api.Color
	}{
		{text: "1 0 0 1", h: pnmhead.Head{Kind: 1, Width: 2, Height: 2, Most: 1}, behind: 7, want: []api.Color{black, white, white, black}},
		{text: "1001", h: pnmhead.Head{Kind: 1, Width: 2, Height: 2, Most: 1}, behind: 4, want: []api.Color{black, white, white, black}},
		{text: "0110", h: pnmhead.Head{Kind: 1, Width: 1, Height: 3, Most: 1}, behind: 3, want: []api.Color{white, black, black}},
		{text: "011x", h: pnmhead.Head{Kind: 1, Width: 3, Height: 1, Most: 1}, behind: 3, want: []api.Color{white, black, black}},
		{text: " #1 1\r0\n\n#\n1 2", h: pnmhead.Head{Kind: 1, Width: 1, Height: 2, Most: 1}, behind: 12, want: []api.Color{white, black}},
		{text: "0 255 128 127", h: pnmhead.Head{Kind: 2, Width: 2, Height: 2, Most: 255}, behind: 13, want: []api.Color{grey(0), grey(255), grey(128), grey(127)}},
		{text: "\t7\v15\f0#9\n3x", h: pnmhead.Head{Kind: 2, Width: 4, Height: 1, Most: 15}, behind: 11, want: []api.Color{grey(119), grey(255), grey(0), grey(51)}},
		{text: "1 0001 2", h: pnmhead.Head{Kind: 2, Width: 1, Height: 2, Most: 1}, behind: 6, want: []api.Color{grey(255), grey(255)}},
		{text: "1#0\n", h: pnmhead.Head{Kind: 2, Width: 1, Height: 1, Most: 2}, behind: 1, want: []api.Color{grey(128)}},
		{text: "65535 0 32768 256 255", h: pnmhead.Head{Kind: 2, Width: 5, Height: 1, Most: 65535}, behind: 21, want: []api.Color{grey(255), grey(0), grey(128), grey(1), grey(1)}},
		{text: "1 2 3 4 5 6 7", h: pnmhead.Head{Kind: 3, Width: 1, Height: 2, Most: 255}, behind: 11, want: []api.Color{{R: 1, G: 2, B: 3, A: 255}, {R: 4, G: 5, B: 6, A: 255}}},
		{text: "255\n0#x\r255\n0 255 0", h: pnmhead.Head{Kind: 3, Width: 2, Height: 1, Most: 255}, behind: 19, want: []api.Color{{R: 255, B: 255, A: 255}, {G: 255, A: 255}}},
		{text: "0 500 1000", h: pnmhead.Head{Kind: 3, Width: 1, Height: 1, Most: 1000}, behind: 10, want: []api.Color{{G: 128, B: 255, A: 255}}},
	} {
		r, at, f := read(t, x.text, x.h)
		if f != (api.Fault{}) || at != x.behind {
			t.Errorf("%q: %+v at %d, not at %d", x.text, f, at, x.behind)
			continue
		}
		expect(t, x.text, r, x.want)
	}
}

// P13.1: all samples of a greatest one are the nearest eight bits.
func TestSamples(t *testing.T) {
	for _, most := range []int{1, 2, 3, 4, 5, 7, 9, 15, 31, 99, 127, 254, 255, 256, 257, 510, 511, 1000, 32767, 65534, 65535} {
		h := pnmhead.Head{Kind: 2, Width: min(most+1, 128), Most: most}
		h.Height = (most + h.Width) / h.Width
		var text strings.Builder
		var want []api.Color
		for i := range h.Width * h.Height {
			v := i % (most + 1)
			text.WriteString(strconv.Itoa(v) + " ")
			want = append(want, grey(nearest(v, most)))
		}
		r, _, f := read(t, text.String(), h)
		if f != (api.Fault{}) {
			t.Fatalf("up to %d: %+v", most, f)
		}
		expect(t, "up to "+strconv.Itoa(most), r, want)
	}
}

// P13.1: three samples are R, G and B, each scaled for itself.
func TestColors(t *testing.T) {
	const most = 20
	h := pnmhead.Head{Kind: 3, Width: 21 * 21, Height: 21, Most: most}
	var text strings.Builder
	var want []api.Color
	for r := range most + 1 {
		for g := range most + 1 {
			for b := range most + 1 {
				text.WriteString(strconv.Itoa(r) + "\n" + strconv.Itoa(g) + " " + strconv.Itoa(b) + "\t")
				want = append(want, api.Color{R: nearest(r, most), G: nearest(g, most), B: nearest(b, most), A: 255})
			}
		}
	}
	r, _, f := read(t, text.String(), h)
	if f != (api.Fault{}) {
		t.Fatal(f)
	}
	expect(t, "colours", r, want)
}

// P13.1: what is wrong, pixel by pixel and sample by sample, and where; the first of several.
func TestWrong(t *testing.T) {
	bits := pnmhead.Head{Kind: 1, Width: 2, Height: 2, Most: 1}
	greys := pnmhead.Head{Kind: 2, Width: 2, Height: 1, Most: 9}
	colors := pnmhead.Head{Kind: 3, Width: 2, Height: 1, Most: 300}
	for _, x := range []struct {
		text string
		h    pnmhead.Head
		f    api.Fault
	}{
		{"", bits, fault(api.Truncated, 0)},
		{"101", bits, fault(api.Truncated, 3)},
		{"1 0 1 ", bits, fault(api.Truncated, 6)},
		{"1 0 1 #1", bits, fault(api.Truncated, 8)},
		{"1 2 1 x", bits, fault(api.Malformed, 2)},
		{"12", bits, fault(api.Malformed, 1)},
		{"x", bits, fault(api.Malformed, 0)},
		{"101-", bits, fault(api.Malformed, 3)},
		{"1\n\n\n:", bits, fault(api.Malformed, 4)},
		{"", greys, fault(api.Truncated, 0)},
		{"9", greys, fault(api.Truncated, 1)},
		{"9 ", greys, fault(api.Truncated, 2)},
		{"9 #9", greys, fault(api.Truncated, 4)},
		{"10 9", greys, fault(api.Malformed, 0)},
		{"9 10", greys, fault(api.Malformed, 2)},
		{"9 #x\n 010", greys, fault(api.Malformed, 6)},
		{"9 9999999999999999999999", greys, fault(api.Malformed, 2)},
		{"9 18446744073709551616", greys, fault(api.Malformed, 2)},
		{"9 -1", greys, fault(api.Malformed, 2)},
		{"9x9", greys, fault(api.Malformed, 1)},
		{"10", greys, fault(api.Malformed, 0)},
		{"10x", greys, fault(api.Malformed, 0)},
		{"x 10", greys, fault(api.Malformed, 0)},
		{"", colors, fault(api.Truncated, 0)},
		{"1 2 3 4 5", colors, fault(api.Truncated, 9)},
		{"1 2 3 4 5\n", colors, fault(api.Truncated, 10)},
		{"1 2", colors, fault(api.Truncated, 3)},
		{"301 302 303 x", colors, fault(api.Malformed, 0)},
		{"300 301 302 x", colors, fault(api.Malformed, 4)},
		{"300 300 301", colors, fault(api.Malformed, 8)},
		{"300 x 301", colors, fault(api.Malformed, 4)},
		{"300 301", colors, fault(api.Malformed, 4)},
		{"1 2 3 301 x", colors, fault(api.Malformed, 6)},
		{"1 2 3 4 301", colors, fault(api.Malformed, 8)},
		{"1 2 3 4 5 301", colors, fault(api.Malformed, 10)},
		{"1 2 3 4 5 65536", colors, fault(api.Malformed, 10)},
		{"1 2 3 4 5 /", colors, fault(api.Malformed, 10)},
	} {
		if _, _, f := read(t, x.text, x.h); f != x.f {
			t.Errorf("%q of the kind %d: %+v, not %+v", x.text, x.h.Kind, f, x.f)
		}
	}
}

// P13.1: pixels are read from the source's place on, within what it goes over; places are those of the whole text.
func TestPlace(t *testing.T) {
	h := pnmhead.Head{Kind: 2, Width: 2, Height: 1, Most: 60, At: 3}
	for _, x := range []struct {
		from, n, at int
		want        []api.Color
		f           api.Fault
	}{
		{0, 11, 3, []api.Color{grey(nearest(34, 60)), grey(nearest(56, 60))}, api.Fault{}},
		{2, 9, 3, []api.Color{grey(nearest(34, 60)), grey(nearest(56, 60))}, api.Fault{}},
		{0, 11, 4, []api.Color{grey(nearest(4, 60)), grey(nearest(56, 60))}, api.Fault{}},
		{0, 7, 0, []api.Color{grey(nearest(12, 60)), grey(nearest(34, 60))}, api.Fault{}},
		{3, 4, 3, []api.Color{grey(nearest(34, 60)), grey(nearest(5, 60))}, api.Fault{}},
		{3, 3, 3, nil, fault(api.Truncated, 6)},
		{3, 2, 3, nil, fault(api.Truncated, 5)},
		{3, 0, 3, nil, fault(api.Truncated, 3)},
		{0, 11, 6, nil, fault(api.Malformed, 9)},
		{0, 11, 11, nil, fault(api.Truncated, 11)},
	} {
		w, ok := source(t, free(), "12 34 56 78").Window(x.from, x.n)
		if !ok || !w.Seek(x.at) {
			t.Fatal(x)
		}
		r := canvas(t, free(), h)
		if f := Read(w, h, r); f != x.f {
			t.Errorf("%+v: %+v", x, f)
			continue
		}
		expect(t, "a window", r, x.want)
	}
}

// model tells pixels by the chapter's words, of a whole text.
type model struct {
	text string
	at   int
	f    api.Fault
}

// digits is the next text of digits, up to most of them, each one of some.
func (m *model) digits(these string, most int) (string, int) {
	if m.f.Kind != api.NoFault {
		return "0", 0
	}
	for m.at < len(m.text) && strings.IndexByte("# \n\t\v\f\r", m.text[m.at]) >= 0 {
		skip := 1
		if m.text[m.at] == '#' {
			skip = strings.IndexAny(m.text[m.at:], "\n\r") + 1
			if skip == 0 {
				skip = len(m.text) - m.at
			}
		}
		m.at += skip
	}
	first := m.at
	for m.at < len(m.text) && m.at-first < most && strings.IndexByte(these, m.text[m.at]) >= 0 {
		m.at++
	}
	switch {
	case m.at > first:
		return m.text[first:m.at], first
	case m.at == len(m.text):
		m.f = fault(api.Truncated, m.at)
	default:
		m.f = fault(api.Malformed, m.at)
	}
	return "0", 0
}

func (m *model) sample(most int) uint8 {
	d, at := m.digits("0123456789", math.MaxInt)
	v, e := strconv.Atoi(d)
	if e != nil || v > most {
		m.f = fault(api.Malformed, at)
		return 0
	}
	return nearest(v, most)
}

func (m *model) pixel(h pnmhead.Head) api.Color {
	switch h.Kind {
	case 1:
		if d, _ := m.digits("01", 1); d == "1" {
			return black
		}
		return white
	case 2:
		return grey(m.sample(h.Most))
	}
	r := m.sample(h.Most)
	g := m.sample(h.Most)
	return api.Color{R: r, G: g, B: m.sample(h.Most), A: 255}
}

func (m *model) pixels(h pnmhead.Head) []api.Color {
	var l []api.Color
	for range h.Width * h.Height {
		l = append(l, m.pixel(h))
	}
	return l
}

// held holds a text's pixels against the model's.
func held(t *testing.T, text string, h pnmhead.Head) {
	t.Helper()
	m := model{text: text}
	want := m.pixels(h)
	r, at, f := read(t, text, h)
	switch {
	case f != m.f:
		t.Errorf("%q of %+v: %+v, not %+v", text, h, f, m.f)
	case f.Kind == api.NoFault:
		if at != m.at {
			t.Errorf("%q of %+v: at %d, not at %d", text, h, at, m.at)
		}
		expect(t, text, r, want)
	}
}

// P13.1: all short texts of digits, blanks, remarks and others.
func TestAllTexts(t *testing.T) {
	heads := []pnmhead.Head{
		{Kind: 1, Width: 2, Height: 1, Most: 1},
		{Kind: 1, Width: 1, Height: 3, Most: 1},
		{Kind: 2, Width: 2, Height: 1, Most: 12},
		{Kind: 2, Width: 1, Height: 1, Most: 1},
		{Kind: 3, Width: 1, Height: 1, Most: 2},
	}
	var all func(text string, n int)
	all = func(text string, n int) {
		for _, h := range heads {
			held(t, text, h)
		}
		for _, piece := range []string{" ", "\r", "#", "0", "1", "2", "x"} {
			if n > 0 {
				all(text+piece, n-1)
			}
		}
	}
	all("", 6)
}

// P13.1: each byte of a text, changed to any other, and the text cut off anywhere.
func TestChanged(t *testing.T) {
	for _, h := range []pnmhead.Head{{Kind: 1, Width: 3, Height: 2, Most: 1}, {Kind: 2, Width: 3, Height: 2, Most: 11}, {Kind: 3, Width: 1, Height: 2, Most: 100}} {
		const text = "1 0#x\n\t1 1\n01 1"
		for i := range len(text) {
			held(t, text[:i], h)
			for b := range 256 {
				held(t, text[:i]+string([]byte{byte(b)})+text[i+1:], h)
			}
		}
	}
}

// P13.1: where a step is refused it is Spent, at the source's place; with more steps the same is told as with enough.
func TestSpent(t *testing.T) {
	for _, x := range []struct {
		text string
		h    pnmhead.Head
	}{
		{"1 0#\n11", pnmhead.Head{Kind: 1, Width: 2, Height: 2, Most: 1}},
		{"12 0#\n9 4 ", pnmhead.Head{Kind: 2, Width: 2, Height: 2, Most: 12}},
		{"1 2 3\n#\n4 5 6", pnmhead.Head{Kind: 3, Width: 2, Height: 1, Most: 6}},
		{"1 2 3 4 5 7", pnmhead.Head{Kind: 3, Width: 2, Height: 1, Most: 6}},
		{"1 0", pnmhead.Head{Kind: 1, Width: 3, Height: 1, Most: 1}},
	} {
		m := model{text: x.text}
		want := m.pixels(x.h)
		told := false
		for steps := range 60 {
			l := working(steps)
			s := source(t, l, x.text)
			r := canvas(t, l, x.h)
			f := Read(s, x.h, r)
			switch {
			case f == m.f:
				told = true
				if f.Kind == api.NoFault {
					expect(t, x.text, r, want)
				}
			case told || f != fault(api.Spent, s.At()) || !l.Broken():
				t.Errorf("%q by %d steps: %+v at %d", x.text, steps, f, s.At())
			}
		}
		if !told {
			t.Errorf("%q isn't told", x.text)
		}
	}
}

// P13.1: a pixel whose step is refused is Spent at the source's place, behind its samples, also where the raster's ledger is another one; the pixels ahead of it are set.
func TestSpentBySet(t *testing.T) {
	for _, x := range []struct {
		text   string
		h      pnmhead.Head
		places []int
	}{
		{"1 0#\n11", pnmhead.Head{Kind: 1, Width: 2, Height: 2, Most: 1}, []int{1, 3, 6, 7}},
		{"12 0#\n9 4 ", pnmhead.Head{Kind: 2, Width: 2, Height: 2, Most: 12}, []int{2, 4, 7, 9}},
		{"1 2 3\n4 5 6", pnmhead.Head{Kind: 3, Width: 1, Height: 2, Most: 6}, []int{5, 11}},
		{"1 2 3\n4 5 6x", pnmhead.Head{Kind: 3, Width: 1, Height: 2, Most: 6}, []int{5, 11}},
	} {
		m := model{text: x.text}
		want := m.pixels(x.h)
		for steps, at := range x.places {
			s := source(t, free(), x.text)
			r := canvas(t, working(steps), x.h)
			if f := Read(s, x.h, r); f != fault(api.Spent, at) || s.At() != at {
				t.Errorf("%q by %d steps: %+v at %d, not at %d", x.text, steps, f, s.At(), at)
			}
			expect(t, x.text, r, want[:steps])
		}
		r := canvas(t, working(len(x.places)), x.h)
		if f := Read(source(t, free(), x.text), x.h, r); f != (api.Fault{}) {
			t.Errorf("%q: %+v", x.text, f)
		}
		expect(t, x.text, r, want)
	}
}

// P13.1: what is wrong with a pixel is told ahead of the refused step that it would take.
func TestWrongAheadOfSpent(t *testing.T) {
	h := pnmhead.Head{Kind: 3, Width: 2, Height: 1, Most: 9}
	for text, f := range map[string]api.Fault{"1 2 3 4 5 10": fault(api.Malformed, 10), "1 2 3 4 5 x": fault(api.Malformed, 10), "1 2 3 4 5": fault(api.Truncated, 9), "1 2 3 4 5 6": fault(api.Spent, 11)} {
		if got := Read(source(t, free(), text), h, canvas(t, working(1), h)); got != f {
			t.Errorf("%q: %+v, not %+v", text, got, f)
		}
	}
}

// picture is an image of such colours.
func picture(width, height int, l ...api.Color) api.Image {
	m := api.Image{Width: width, Height: height}
	for _, c := range l {
		m.Pix = append(m.Pix, c.R, c.G, c.B, c.A)
	}
	return m
}

// P13.1: what is written, byte by byte.
func TestWrite(t *testing.T) {
	for _, x := range []struct {
		m    api.Image
		kind int
		want string
	}{
		{picture(1, 1, black), 1, "P1\n1 1\n1\n"},
		{picture(1, 1, white), 1, "P1\n1 1\n0\n"},
		{picture(3, 2, black, white, white, white, black, black), 1, "P1\n3 2\n1 0 0\n0 1 1\n"},
		{picture(1, 3, black, white, black), 1, "P1\n1 3\n1\n0\n1\n"},
		{picture(1, 1, black), 2, "P2\n1 1\n255\n0\n"},
		{picture(3, 2, black, white, grey(7), grey(10), grey(99), grey(100)), 2, "P2\n3 2\n255\n0 255 7\n10 99 100\n"},
		{picture(1, 2, grey(1), grey(254)), 2, "P2\n1 2\n255\n1\n254\n"},
		{picture(1, 1, white), 3, "P3\n1 1\n255\n255 255 255\n"},
		{picture(2, 2, api.Color{R: 1, G: 20, B: 255, A: 255}, api.Color{R: 0, G: 9, B: 100, A: 255}, black, grey(8)), 3, "P3\n2 2\n255\n1 20 255 0 9 100\n0 0 0 8 8 8\n"},
	} {
		had := string(x.m.Pix)
		if text, e := Write(x.m, x.kind); text != x.want || e != api.OK {
			t.Errorf("the kind %d: %q, %d, not %q", x.kind, text, e, x.want)
		}
		if string(x.m.Pix) != had {
			t.Error("the image was changed")
		}
	}
}

// P13.1: what can't be written: the kind ahead of the sides, those ahead of the pixels.
func TestWriteWrong(t *testing.T) {
	half := picture(1, 1, api.Color{A: 254})
	notRight := []api.Image{{}, {Width: 1, Height: 1}, {Width: 1, Height: 1, Pix: make([]byte, 3)}, {Width: 1, Height: 1, Pix: make([]byte, 5)}, {Width: 0, Height: 1}, {Width: -1, Height: -1, Pix: make([]byte, 4)}, {Width: 16385, Height: 1, Pix: make([]byte, 4*16385)}, {Width: 1 << 62, Height: 4}, {Width: math.MaxInt, Height: math.MinInt}}
	for _, kind := range noKinds {
		for _, m := range append(notRight, half, picture(1, 1, black)) {
			if text, e := Write(m, kind); text != "" || e != api.ErrArg {
				t.Errorf("the kind %d: %q, %d", kind, text, e)
			}
		}
	}
	for kind := 1; kind <= 3; kind++ {
		for _, m := range notRight {
			if text, e := Write(m, kind); text != "" || e != api.ErrSize {
				t.Errorf("%d by %d of the kind %d: %q, %d", m.Width, m.Height, kind, text, e)
			}
		}
		for a := range 255 {
			if text, e := Write(picture(2, 1, white, api.Color{A: uint8(a)}), kind); text != "" || e != api.ErrForm {
				t.Errorf("A %d of the kind %d: %q, %d", a, kind, text, e)
			}
		}
	}
}

// P13.1: which colours a kind has; one pixel of another is enough, wherever it is.
func TestWriteForm(t *testing.T) {
	few := []uint8{0, 1, 2, 127, 128, 253, 254, 255}
	for _, r := range few {
		for _, g := range few {
			for _, b := range few {
				c := api.Color{R: r, G: g, B: b, A: 255}
				one := r == g && g == b
				form(t, c, 1, one && (r == 0 || r == 255))
				form(t, c, 2, one)
				form(t, c, 3, true)
			}
		}
	}
	for v := range 256 {
		form(t, grey(uint8(v)), 1, v == 0 || v == 255)
		form(t, grey(uint8(v)), 2, true)
	}
}

func form(t *testing.T, c api.Color, kind int, fits bool) {
	t.Helper()
	for i := range 6 {
		l := []api.Color{black, white, black, black, white, white}
		l[i] = c
		text, e := Write(picture(3, 2, l...), kind)
		if fits != (e == api.OK) || !fits && (text != "" || e != api.ErrForm) {
			t.Errorf("%v of the kind %d: %d", c, kind, e)
		}
	}
}

// random is an image that a kind can have.
func random(n *rand.Rand, kind, width, height int) api.Image {
	m := api.Image{Width: width, Height: height}
	for range width * height {
		v := byte(n.Intn(256))
		switch kind {
		case 1:
			v = byte(n.Intn(2)) * 255
			m.Pix = append(m.Pix, v, v, v, 255)
		case 2:
			m.Pix = append(m.Pix, v, v, v, 255)
		default:
			m.Pix = append(m.Pix, v, byte(n.Intn(256)), byte(n.Intn(256)), 255)
		}
	}
	return m
}

// back holds what is written against what is read of it.
func back(t *testing.T, m api.Image, kind int) {
	t.Helper()
	text, e := Write(m, kind)
	if e != api.OK {
		t.Fatalf("%d by %d of the kind %d: %d", m.Width, m.Height, kind, e)
	}
	s := source(t, free(), text)
	h, f := pnmhead.Read(s)
	if f.Kind != api.NoFault || h.Kind != kind || h.Width != m.Width || h.Height != m.Height {
		t.Fatalf("%q: %+v, %+v", text, h, f)
	}
	r := canvas(t, free(), h)
	if f = Read(s, h, r); f != (api.Fault{}) {
		t.Fatalf("%q: %+v", text, f)
	}
	if s.Left() != 1 {
		t.Errorf("%d bytes are left", s.Left())
	}
	if got, _ := r.Image(); !raster.Same(got, m) {
		t.Errorf("%q: %v, not %v", text, got, m)
	}
}

// P13.2: what is written is read as it was, of all kinds and small sides, and some great ones.
func TestBack(t *testing.T) {
	n := rand.New(rand.NewSource(1))
	for kind := 1; kind <= 3; kind++ {
		for width := 1; width <= 17; width++ {
			for height := 1; height <= 5; height++ {
				back(t, random(n, kind, width, height), kind)
			}
		}
		back(t, random(n, kind, api.MaxSide, 2), kind)
		back(t, random(n, kind, 2, api.MaxSide), kind)
	}
	all := api.Image{Width: 256, Height: 1}
	for v := range 256 {
		all.Pix = append(all.Pix, byte(v), byte(v), byte(v), 255)
	}
	back(t, all, 2)
	back(t, all, 3)
}

// P13.1: of a head that none is there is an end, too.
func TestNoHead(t *testing.T) {
	for _, most := range []int{math.MinInt, -1, 0, 65536, 1 << 32, math.MaxInt} {
		for _, width := range []int{math.MinInt, -1, 0, 3, math.MaxInt} {
			for kind := range 8 {
				h := pnmhead.Head{Kind: kind, Width: width, Height: 2, Most: most}
				Read(source(t, free(), "1 1 1 1"), h, canvas(t, free(), pnmhead.Head{Width: 2, Height: 1}))
			}
		}
	}
}
