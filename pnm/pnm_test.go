package pnm

import (
	"math"
	"math/rand"
	"strconv"
	"strings"
	"testing"

	"tintype/api"
	"tintype/ledger"
	"tintype/pnmraw"
	"tintype/pnmtext"
	"tintype/raster"
	"tintype/src"
)

// noKinds are numbers that no kind has.
var noKinds = []int{math.MinInt, -1 << 32, -256, -4, -1, 0, 7, 8, '1', '4', '6', 255, 257, 260, 1<<32 + 1, 1<<32 + 4, math.MaxInt}

// much is a budget that lets everything.
var much = api.Budget{MaxWidth: math.MaxInt, MaxHeight: math.MaxInt, MaxBytes: math.MaxInt, MaxWork: math.MaxInt}

func source(t *testing.T, g api.Budget, text string) *src.Src {
	t.Helper()
	s, e := src.New(ledger.New(g), text)
	if e != api.OK {
		t.Fatalf("no source: %d", e)
	}
	return s
}

func fault(kind, at int) api.Fault {
	return api.Fault{Kind: kind, Format: api.PNM, At: at}
}

func grey(v uint8) api.Color { return api.Color{R: v, G: v, B: v, A: 255} }

var (
	black = grey(0)
	white = grey(255)
)

// picture is an image of such colours.
func picture(width, height int, l ...api.Color) api.Image {
	m := api.Image{Width: width, Height: height}
	for _, c := range l {
		m.Pix = append(m.Pix, c.R, c.G, c.B, c.A)
	}
	return m
}

// decode is the image of a source's file, or what is wrong. Its ledger keeps just the bytes of the image more, or none.
func decode(t *testing.T, s *src.Src) (api.Image, api.Fault) {
	t.Helper()
	had := s.Ledger().Bytes()
	r, f := Decode(s)
	if f.Kind != api.NoFault {
		if r != nil || s.Ledger().Bytes() != had {
			t.Errorf("%+v: beside it %v, and %d bytes", f, r, s.Ledger().Bytes()-had)
		}
		return api.Image{}, f
	}
	if f != (api.Fault{}) {
		t.Errorf("no fault is %+v", f)
	}
	m, ok := r.Image()
	if !ok || !raster.Right(m) || s.Ledger().Bytes() != had+len(m.Pix) {
		t.Errorf("%d by %d, %t, of %d bytes: %d more are kept", m.Width, m.Height, ok, len(m.Pix), s.Ledger().Bytes()-had)
	}
	return m, f
}

// expect holds a whole text against its image, or what is wrong.
func expect(t *testing.T, text string, m api.Image, f api.Fault) {
	t.Helper()
	got, g := decode(t, source(t, much, text))
	if g != f || !raster.Same(got, m) {
		t.Errorf("%.60q: %v, %+v, not %v, %+v", text, got, g, m, f)
	}
}

// P15.1: the chapter's example.
func TestExample(t *testing.T) {
	expect(t, "P5 1 1 255\nA", picture(1, 1, grey(0x41)), api.Fault{})
}

// files are one of each kind, and more; each ends with its last pixel.
var files = []struct {
	text string
	head int
	m    api.Image
}{
	{"P1 3 2 0 1 0\n#x\n111", 6, picture(3, 2, white, black, white, black, black, black)},
	{"P2\n2 2\n15\n0 15\n1 2", 10, picture(2, 2, black, white, grey(17), grey(34))},
	{"P3 1 2 9 9 0 0 #\n0 9 9", 8, picture(1, 2, api.Color{R: 255, A: 255}, api.Color{G: 255, B: 255, A: 255})},
	{"P4 9 2\n\x80\x80\x7f\x7f", 7, picture(9, 2, black, white, white, white, white, white, white, white, black, white, black, black, black, black, black, black, black, white)},
	{"P5 2 3 255\n123456", 11, picture(2, 3, grey('1'), grey('2'), grey('3'), grey('4'), grey('5'), grey('6'))},
	{"P5#\n1 2 65535\n\xff\xff\x80\x00", 14, picture(1, 2, white, grey(128))},
	{"P6 2 1 255\rabcABC", 11, picture(2, 1, api.Color{R: 'a', G: 'b', B: 'c', A: 255}, api.Color{R: 'A', G: 'B', B: 'C', A: 255})},
	{"P6 1 1 256 \x01\x00\x00\x80\x00\x00", 11, picture(1, 1, api.Color{R: 255, G: 128, A: 255})},
}

// P15.1: files of all kinds; what stands behind isn't looked at.
func TestDecode(t *testing.T) {
	for _, x := range files {
		for _, tail := range []string{"", " ", "\n", "#", "x", "\x00", "\xff\xff\xff\xff", "P5 1 1 255\nA"} {
			// A digit more would be one of the last number's.
			expect(t, x.text+tail, x.m, api.Fault{})
		}
	}
}

// P15.1: a file that is cut off behind its head is Truncated at its end, but where a number ends sooner.
func TestCutOff(t *testing.T) {
	for _, x := range files {
		for n := x.head; n < len(x.text); n++ {
			expect(t, x.text[:n], api.Image{}, fault(api.Truncated, n))
		}
	}
	expect(t, "P2 1 1 255 25", picture(1, 1, grey(25)), api.Fault{})
}

// P15.1: a file is read from the source's place on, within what it goes over; places are those of the whole text.
func TestPlace(t *testing.T) {
	for _, x := range files {
		text := "P5 9 9 " + x.text + "!"
		s := source(t, much, text)
		s.Seek(7)
		if m, f := decode(t, s); f != (api.Fault{}) || !raster.Same(m, x.m) || s.At() != len(text)-1 {
			t.Errorf("%q: %v, %+v, at %d", text, m, f, s.At())
		}
		w, _ := source(t, much, text).Window(7, len(x.text))
		if m, f := decode(t, w); f != (api.Fault{}) || !raster.Same(m, x.m) {
			t.Errorf("%q: %v, %+v", text, m, f)
		}
		w, _ = source(t, much, text).Window(7, len(x.text)-1)
		if m, f := decode(t, w); f != fault(api.Truncated, len(text)-2) {
			t.Errorf("%q: %v, %+v", text, m, f)
		}
	}
	s := source(t, much, files[4].text+files[6].text)
	for _, m := range []api.Image{files[4].m, files[6].m} {
		if got, f := decode(t, s); f != (api.Fault{}) || !raster.Same(got, m) {
			t.Errorf("one behind the other: %v, %+v", got, f)
		}
	}
}

// P15.1: what is wrong with a head, or with pixels.
func TestWrong(t *testing.T) {
	for text, f := range map[string]api.Fault{
		"":                       fault(api.Truncated, 0),
		"P":                      fault(api.Truncated, 1),
		"Q5 1 1 255\nA":          fault(api.Malformed, 0),
		"P7 1 1 255\nA":          fault(api.Malformed, 1),
		"P5 0 1 255\nA":          fault(api.Malformed, 3),
		"P5 1 16385 255\nA":      fault(api.Unsupported, 5),
		"P5 1 1 0\nA":            fault(api.Malformed, 7),
		"P5 1 1 255A":            fault(api.Malformed, 10),
		"P1 2 1 1 2":             fault(api.Malformed, 9),
		"P1 2 1 1x":              fault(api.Malformed, 8),
		"P2 2 1 9 9 10":          fault(api.Malformed, 11),
		"P3 1 1 9 9 9 x":         fault(api.Malformed, 13),
		"P5 2 1 9\n\x09\x0a":     fault(api.Malformed, 10),
		"P6 1 1 999\n\x03\xe8..": fault(api.Malformed, 11),
		"P4 16384 16384\n":       fault(api.Truncated, 15),
	} {
		expect(t, text, api.Image{}, f)
	}
}

// P15.1: what a budget doesn't let is Spent at the source's place: of the sides and the bytes behind the head, ahead of what is wrong with the pixels.
func TestSpent(t *testing.T) {
	less := func(change func(g *api.Budget)) api.Budget {
		g := api.Budget{MaxWidth: 3, MaxHeight: 2, MaxBytes: 24, MaxWork: 1000}
		change(&g)
		return g
	}
	enough := less(func(*api.Budget) {})
	small := []api.Budget{
		less(func(g *api.Budget) { g.MaxWidth = 2 }),
		less(func(g *api.Budget) { g.MaxWidth = 0 }),
		less(func(g *api.Budget) { g.MaxWidth = -1 }),
		less(func(g *api.Budget) { g.MaxHeight = 1 }),
		less(func(g *api.Budget) { g.MaxBytes = 23 }),
		less(func(g *api.Budget) { g.MaxBytes = 0 }),
		{MaxWork: 1000},
	}
	for text, at := range map[string]int{
		"P1 3 2\n101010":                  6,
		"P1 3 2\nx":                       6,
		"P2 3 2 9 1 2 3 4 5 6":            8,
		"P4 3 2\n\x80\x80":                7,
		"P4 3 2\n":                        7,
		"P5 3 2 255 123456":               11,
		"P5 3 2 9 xxxxxx":                 9,
		"P6 3 2 255\n":                    11,
		"P6 3 2 255\nabcdefghijklmnopqrs": 11,
	} {
		for _, g := range small {
			s := source(t, g, text)
			if m, f := decode(t, s); f != fault(api.Spent, at) || s.At() != at || s.Ledger().Peak() != 0 {
				t.Errorf("%q by %+v: %v, %+v, at %d", text, g, m, f, s.At())
			}
		}
		if _, f := decode(t, source(t, enough, text)); f.Kind == api.Spent {
			t.Errorf("%q by %+v: %+v", text, enough, f)
		}
	}
	for text, f := range map[string]api.Fault{"P5 0 2 255 ": fault(api.Malformed, 3), "P5 3 2 0 ": fault(api.Malformed, 7), "P5 3 2 255x": fault(api.Malformed, 10), "P5 3 2 255": fault(api.Truncated, 10), "P5 16385 2": fault(api.Unsupported, 3)} {
		for _, g := range small {
			if _, got := decode(t, source(t, g, text)); got != f {
				t.Errorf("%q by %+v: %+v, not %+v", text, g, got, f)
			}
		}
	}
}

// P15.1: by so many steps a file is told, or it is Spent; by more than are enough it is told, and always within its need.
func TestSteps(t *testing.T) {
	for _, x := range files {
		need := api.Budget{MaxWidth: x.m.Width, MaxHeight: x.m.Height, MaxBytes: len(x.m.Pix), MaxWork: 8*(len(x.text)+len(x.m.Pix)) + 1024}
		m, f := decode(t, source(t, need, x.text))
		if f != (api.Fault{}) || !raster.Same(m, x.m) {
			t.Errorf("%q by its need: %v, %+v", x.text, m, f)
		}
		told := false
		for steps := range 200 {
			g := need
			g.MaxWork = steps
			s := source(t, g, x.text)
			m, f := decode(t, s)
			switch {
			case f == api.Fault{}:
				told = true
				if !raster.Same(m, x.m) {
					t.Errorf("%q by %d steps: %v", x.text, steps, m)
				}
			case told || f != fault(api.Spent, s.At()):
				t.Errorf("%q by %d steps: %+v, at %d", x.text, steps, f, s.At())
			}
			if s.Ledger().Steps() > steps || s.Ledger().Peak() > len(x.m.Pix) {
				t.Errorf("%q by %d steps: %d, and %d bytes", x.text, steps, s.Ledger().Steps(), s.Ledger().Peak())
			}
		}
		if !told {
			t.Errorf("%q isn't told", x.text)
		}
	}
}

// P15.1: a raster is open, and the caller's: it can be freed, and a second one has bytes of its own.
func TestOpen(t *testing.T) {
	s := source(t, much, "P5 2 1 255\nABP5 2 1 255\nCD")
	one, f := Decode(s)
	other, g := Decode(s)
	if f != (api.Fault{}) || g != f || s.Ledger().Bytes() != 16 || s.Left() != 0 {
		t.Fatal(f, g, s.Ledger().Bytes())
	}
	if !one.Set(0, 0, black) || !one.Free() || s.Ledger().Bytes() != 8 {
		t.Error("the first one isn't open")
	}
	if row, ok := other.Row(0); row != "CCC\xffDDD\xff" || !ok {
		t.Errorf("%q, %t", row, ok)
	}
}

// P15.1: any bytes are an image or a fault, which may be of PNM, at a place that there is; whatever the budget is, but for Spent, they are the same.
func TestAnyBytes(t *testing.T) {
	n := rand.New(rand.NewSource(7))
	for _, x := range files {
		for range 3000 {
			b := []byte(x.text)
			for range 1 + n.Intn(4) {
				b[n.Intn(len(b))] = "0123 \n#Px\x00\xff9"[n.Intn(12)]
			}
			text := string(b[:n.Intn(len(b)+1)])
			m, f := decode(t, source(t, api.Budget{MaxWidth: 100, MaxHeight: 100, MaxBytes: 40000, MaxWork: 100000}, text))
			if f.Kind != api.NoFault && (f.Kind > api.Spent || f.Format != api.PNM || f.At < 0 || f.At > len(text)) {
				t.Errorf("%q: %+v", text, f)
			}
			small := api.Budget{MaxWidth: n.Intn(12), MaxHeight: n.Intn(5), MaxBytes: n.Intn(100), MaxWork: n.Intn(100)}
			k, g := decode(t, source(t, small, text))
			if g.Kind != api.Spent && (g != f || !raster.Same(k, m)) {
				t.Errorf("%q by %+v: %v, %+v, not %v, %+v", text, small, k, g, m, f)
			}
		}
	}
}

// P15.1: what is written is what the layers of text and bytes write; of other kinds there is nothing.
func TestWrite(t *testing.T) {
	images := []api.Image{picture(2, 1, black, white), picture(1, 2, grey(7), white), picture(1, 1, api.Color{R: 1, A: 255}), picture(1, 1, api.Color{A: 254}), {}, {Width: 1, Height: 1}, {Width: -1, Height: -1, Pix: make([]byte, 4)}}
	for _, m := range images {
		for kind := 1; kind <= 6; kind++ {
			want, e := pnmtext.Write(m, kind)
			if kind > 3 {
				want, e = pnmraw.Write(m, kind)
			}
			if text, g := Write(m, kind); text != want || g != e {
				t.Errorf("the kind %d: %q, %d, not %q, %d", kind, text, g, want, e)
			}
		}
		for _, kind := range noKinds {
			if text, e := Write(m, kind); text != "" || e != api.ErrArg {
				t.Errorf("the kind %d: %q, %d", kind, text, e)
			}
		}
	}
	for kind, want := range []string{1: "P1\n1 1\n1\n", 2: "P2\n1 1\n255\n0\n", 3: "P3\n1 1\n255\n0 0 0\n", 4: "P4\n1 1\n\x80", 5: "P5\n1 1\n255\n\x00", 6: "P6\n1 1\n255\n\x00\x00\x00"} {
		if text, e := Write(picture(1, 1, black), kind); kind > 0 && (text != want || e != api.OK) {
			t.Errorf("the kind %d: %q, %d", kind, text, e)
		}
	}
}

// P15.1: the least kind of bytes that an image can have.
func TestKind(t *testing.T) {
	for _, x := range []struct {
		m    api.Image
		kind int
	}{
		{picture(1, 1, black), 4},
		{picture(1, 1, white), 4},
		{picture(2, 2, black, white, white, black), 4},
		{picture(1, 1, grey(1)), 5},
		{picture(1, 1, grey(254)), 5},
		{picture(2, 2, black, white, white, grey(128)), 5},
		{picture(1, 1, api.Color{R: 1, A: 255}), 6},
		{picture(1, 1, api.Color{R: 255, G: 255, B: 254, A: 255}), 6},
		{picture(1, 1, api.Color{G: 255, A: 255}), 6},
		{picture(2, 2, black, white, grey(7), api.Color{R: 8, G: 8, B: 9, A: 255}), 6},
		{picture(1, 1, api.Color{}), 0},
		{picture(1, 1, api.Color{A: 254}), 0},
		{picture(2, 1, black, api.Color{R: 255, G: 255, B: 255, A: 254}), 0},
		{picture(2, 1, api.Color{A: 128}, black), 0},
		{api.Image{}, 0},
		{api.Image{Width: 1, Height: 1}, 0},
		{api.Image{Width: 2, Height: 1, Pix: []byte{0, 0, 0, 255}}, 0},
		{api.Image{Width: 1, Height: 1, Pix: []byte{0, 0, 0, 255, 0, 0, 0, 255}}, 0},
		{api.Image{Width: -1, Height: -1, Pix: []byte{0, 0, 0, 255}}, 0},
		{api.Image{Width: 16385, Height: 1, Pix: []byte(strings.Repeat("\x00\x00\x00\xff", 16385))}, 0},
	} {
		if kind := Kind(x.m); kind != x.kind {
			t.Errorf("%d by %d, %.40v: %d, not %d", x.m.Width, x.m.Height, x.m.Pix, kind, x.kind)
		}
		least := 0
		for kind := 6; kind >= 4; kind-- {
			if _, e := Write(x.m, kind); e == api.OK {
				least = kind
			}
		}
		if least != x.kind {
			t.Errorf("%d by %d is written of the kind %d, not %d", x.m.Width, x.m.Height, least, x.kind)
		}
	}
}

// P15.2: what is written is decoded as it was, of all kinds that an image can have.
func TestBack(t *testing.T) {
	n := rand.New(rand.NewSource(2))
	for width := 1; width <= 18; width++ {
		for height := 1; height <= 4; height++ {
			for colors := range 3 {
				m := api.Image{Width: width, Height: height}
				for range width * height {
					v := byte(n.Intn(256))
					switch colors {
					case 0:
						v = byte(n.Intn(2)) * 255
						m.Pix = append(m.Pix, v, v, v, 255)
					case 1:
						m.Pix = append(m.Pix, v, v, v, 255)
					default:
						m.Pix = append(m.Pix, v, v/2, byte(n.Intn(256)), 255)
					}
				}
				back(t, m, colors)
			}
		}
	}
	great := api.Image{Width: api.MaxSide, Height: 3, Pix: []byte(strings.Repeat("\x00\x00\x00\xff\xff\xff\xff\xff\xff\xff\xff\xff", api.MaxSide))}
	back(t, great, 0)
}

// back writes an image of all kinds, from those of so many colours on.
func back(t *testing.T, m api.Image, colors int) {
	t.Helper()
	for kind := 1; kind <= 6; kind++ {
		if (kind-1)%3 < colors {
			continue
		}
		text, e := Write(m, kind)
		if e != api.OK {
			t.Fatalf("%d by %d of the kind %d: %d", m.Width, m.Height, kind, e)
		}
		if !strings.HasPrefix(text, "P"+strconv.Itoa(kind)+"\n") {
			t.Errorf("%.10q isn't of the kind %d", text, kind)
		}
		expect(t, text, m, api.Fault{})
		expect(t, text+"\n1", m, api.Fault{})
	}
}
