package decode

import (
	"encoding/binary"
	"math"
	"strings"
	"testing"

	"tintype/api"
	"tintype/bmp"
	"tintype/fault"
	"tintype/ff"
	"tintype/ico"
	"tintype/ledger"
	"tintype/need"
	"tintype/pcx"
	"tintype/pnm"
	"tintype/qoi"
	"tintype/raster"
	"tintype/sniff"
	"tintype/src"
	"tintype/sun"
	"tintype/tga"
)

// random tells numbers below n, of a seed of its own.
func random(seed uint64) func(n int) int {
	return func(n int) int {
		seed = seed*6364136223846793005 + 1442695040888963407
		return int(seed>>33) % n
	}
}

func wrong(kind, format, at int) api.Fault {
	return api.Fault{Kind: kind, Format: format, At: at}
}

// unknown is what is wrong with bytes of no format.
var unknown = wrong(api.Unsupported, api.Unknown, 0)

// all is a budget that lets anything.
var all = api.Budget{MaxWidth: math.MaxInt, MaxHeight: math.MaxInt, MaxBytes: math.MaxInt, MaxWork: math.MaxInt}

// none tells whether nothing is told of an image.
func none(m api.Image) bool { return m.Width == 0 && m.Height == 0 && m.Pix == nil }

func le16(l ...int) string {
	var b []byte
	for _, v := range l {
		b = binary.LittleEndian.AppendUint16(b, uint16(v))
	}
	return string(b)
}

func le32(l ...int) string {
	var b []byte
	for _, v := range l {
		b = binary.LittleEndian.AppendUint32(b, uint32(v))
	}
	return string(b)
}

func be32(l ...int) string {
	var b []byte
	for _, v := range l {
		b = binary.BigEndian.AppendUint32(b, uint32(v))
	}
	return string(b)
}

// byHand is a file of each format whose image is one pixel, and the bytes of that.
func byHand() map[int]struct{ file, pix string } {
	head := le32(40, 1, 1) + le16(1, 24) + le32(0, 0, 0, 0, 0, 0)
	twice := le32(40, 1, 2) + le16(1, 32) + le32(0, 0, 0, 0, 0, 0)
	return map[int]struct{ file, pix string }{
		api.BMP: {"BM" + le32(58, 0, 54) + head + "\x01\x02\x03\x00", "\x03\x02\x01\xff"},
		api.TGA: {"\x00\x00\x02\x00\x00\x00\x00\x00\x00\x00\x00\x00\x01\x00\x01\x00\x20\x08\x01\x02\x03\x04", "\x03\x02\x01\x04"},
		api.PNM: {"P6 1 1 255 \x01\x02\x03", "\x01\x02\x03\xff"},
		api.ICO: {le16(0, 1, 1) + "\x01\x01\x00\x00" + le16(1, 32) + le32(48, 22) + twice + "\x01\x02\x03\x04" + "\x00\x00\x00\x00", "\x03\x02\x01\x04"},
		api.QOI: {"qoif" + be32(1, 1) + "\x04\x00" + "\xff\x01\x02\x03\x04" + "\x00\x00\x00\x00\x00\x00\x00\x01", "\x01\x02\x03\x04"},
		api.FF:  {"farbfeld" + be32(1, 1) + "\x01\x01\x02\x02\x03\x03\x04\x04", "\x01\x02\x03\x04"},
		api.PCX: {"\x0a\x05\x01\x08" + strings.Repeat("\x00", 61) + "\x03\x01\x00" + strings.Repeat("\x00", 60) + "\x01\x02\xc1\x03", "\x01\x02\x03\xff"},
		api.SUN: {"\x59\xa6\x6a\x95" + be32(1, 1, 24, 0, 1, 0, 0) + "\x01\x02\x03\x00", "\x03\x02\x01\xff"},
	}
}

// Whole examples, and the chapter's.
// P32.1.
func TestExamples(t *testing.T) {
	m, f, r := Decode("", api.Budget{})
	if !none(m) || f != unknown || r != (Report{}) {
		t.Error(m, f, r)
	}
	few := api.Budget{MaxWidth: 9, MaxHeight: 9, MaxBytes: 3, MaxWork: 500}
	m, f, r = Decode("P5 1 1 255\nA", few)
	if !none(m) || f != wrong(api.Spent, api.PNM, 11) || r != (Report{api.PNM, 0, r.Steps, ledger.Refusal{Reason: ledger.Bytes, Asked: 4}}) || r.Steps == 0 {
		t.Error(m, f, r)
	}
	few.MaxBytes = 4
	m, f, r = Decode("P5 1 1 255\nA", few)
	if m.Width != 1 || m.Height != 1 || string(m.Pix) != "AAA\xff" || f != (api.Fault{}) || r != (Report{api.PNM, 4, r.Steps, ledger.Refusal{}}) {
		t.Error(m, f, r)
	}
	if _, f, _ := Decode("BM", few); f != wrong(api.Truncated, api.BMP, 2) {
		t.Error(f)
	}
	if _, f, _ := Decode("GIF89a", few); f != unknown {
		t.Error(f)
	}
}

// P32.1: files by hand of each format, whole and cut off anywhere.
func TestByHand(t *testing.T) {
	for format, x := range byHand() {
		m, f, r := Decode(x.file, api.Budget{MaxWidth: 1, MaxHeight: 1, MaxBytes: 100, MaxWork: 1000})
		if m.Width != 1 || m.Height != 1 || string(m.Pix) != x.pix || f != (api.Fault{}) {
			t.Errorf("%d: %+v, %+v", format, m, f)
		}
		if r.Format != format || r.Peak < 4 || r.Steps < 2 || r.Refusal != (ledger.Refusal{}) {
			t.Errorf("%d: %+v", format, r)
		}
		for n := range len(x.file) {
			m, f, r := Decode(x.file[:n], all)
			of := sniff.Format(x.file[:n])
			if !none(m) || f.Format != of || r.Format != of || of != format && of != api.Unknown {
				t.Errorf("%d of %d bytes: %+v, %+v, %+v", format, n, m, f, r)
			}
			if want := wrong(api.Truncated, of, n); of != api.Unknown && of != api.ICO && f != want {
				t.Errorf("%d of %d bytes: %+v", format, n, f)
			}
		}
	}
}

// layer is a format's decoder; nil: there is none.
func layer(format int) func(s *src.Src) (*raster.Raster, api.Fault) {
	switch format {
	case 1:
		return bmp.Decode
	case 2:
		return tga.Decode
	case 3:
		return pnm.Decode
	case 4:
		return ico.Decode
	case 5:
		return qoi.Decode
	case 6:
		return ff.Decode
	case 7:
		return pcx.Decode
	case 8:
		return sun.Decode
	}
	return nil
}

// model is what Decode tells, by the decoders of the layers.
func model(s string, g api.Budget) (api.Image, api.Fault, Report) {
	l := ledger.New(g)
	do := layer(sniff.Format(s))
	if do == nil {
		return api.Image{}, unknown, Report{}
	}
	x, _ := src.New(l, s)
	r, f := do(x)
	var m api.Image
	if r != nil {
		m, _ = r.Image()
	}
	first, _ := l.First()
	return m, f, Report{sniff.Format(s), l.Peak(), l.Steps(), first}
}

// tellsRight holds what Decode tells against what it may tell, and against the model.
func tellsRight(t *testing.T, s string, g api.Budget) (api.Image, api.Fault, Report) {
	t.Helper()
	m, f, r := Decode(s, g)
	if f.Kind == api.NoFault {
		if f != (api.Fault{}) || !raster.Right(m) || m.Width > g.MaxWidth || m.Height > g.MaxHeight {
			t.Errorf("%.60q by %+v: %d by %d, %+v", s, g, m.Width, m.Height, f)
		}
	} else if !none(m) || !fault.Right(f) || f.Format != sniff.Format(s) || f.At > len(s) {
		t.Errorf("%.60q by %+v: %+v, %+v", s, g, m, f)
	}
	if r.Format != sniff.Format(s) || r.Peak < 0 || r.Peak > max(g.MaxBytes, 0) || r.Steps < 0 || r.Steps > max(g.MaxWork, 0) {
		t.Errorf("%.60q by %+v: %+v", s, g, r)
	}
	if (f.Kind == api.Spent) != (r.Refusal != ledger.Refusal{}) {
		t.Errorf("%.60q by %+v: %+v, %+v", s, g, f, r)
	}
	want, fault, report := model(s, g)
	if !raster.Same(m, want) || f != fault || r != report {
		t.Errorf("%.60q by %+v: %+v, %+v, not %+v, %+v", s, g, f, r, fault, report)
	}
	return m, f, r
}

// told is what Decode tells but for its report, as one thing that can be compared.
type told struct {
	width, height int
	pix           string
	fault         api.Fault
}

func tell(t *testing.T, s string, g api.Budget) told {
	t.Helper()
	m, f, _ := tellsRight(t, s, g)
	return told{m.Width, m.Height, string(m.Pix), f}
}

// less are budgets of which one number is less, of those that stand for something.
func less(g api.Budget, by int) []api.Budget {
	l := []api.Budget{g, g, g, g}
	l[0].MaxWidth -= by
	l[1].MaxHeight -= by
	l[2].MaxBytes -= by
	l[3].MaxWork -= by
	return l
}

// budgets holds a file against many budgets: those that let what it takes tell what all tell, others that or Spent; it tells whether there is an image.
func budgets(t *testing.T, s string, step int) bool {
	t.Helper()
	m, f, r := tellsRight(t, s, all)
	if f.Kind == api.Spent {
		t.Errorf("%.60q: %+v", s, f)
	}
	want := told{m.Width, m.Height, string(m.Pix), f}
	width, height, _, _ := Config(s)
	just := api.Budget{MaxWidth: width, MaxHeight: height, MaxBytes: r.Peak, MaxWork: r.Steps}
	if got := tell(t, s, just); got != want {
		t.Errorf("%.60q by %+v: %+v", s, just, got.fault)
	}
	for _, g := range less(just, 1) {
		got := tell(t, s, g)
		if got.fault.Kind != api.Spent && got != want || f.Kind == api.NoFault && got == want {
			t.Errorf("%.60q by %+v: %+v", s, g, got.fault)
		}
	}
	for n := 0; n < r.Steps; n += step {
		g := just
		g.MaxWork = n
		if got := tell(t, s, g); got.fault.Kind != api.Spent {
			t.Errorf("%.60q by %+v: %+v", s, g, got.fault)
		}
	}
	for n := 0; n < r.Peak; n += step {
		g := just
		g.MaxBytes = n
		if got := tell(t, s, g); got.fault.Kind != api.Spent {
			t.Errorf("%.60q by %+v: %+v", s, g, got.fault)
		}
	}
	return f.Kind == api.NoFault
}

// enough holds a file against its need: with it, and with more of any number, nothing is Spent, and no more is taken.
func enough(t *testing.T, s string) {
	t.Helper()
	g, f := need.Need(s)
	if f.Kind != api.NoFault {
		return
	}
	want := tell(t, s, all)
	for _, more := range append(less(g, -1), append(less(g, -1000), g)...) {
		if got := tell(t, s, more); got != want || got.fault.Kind == api.Spent {
			t.Errorf("%.60q by %+v: %+v", s, more, got.fault)
		}
	}
	_, _, r := Decode(s, all)
	if r.Peak > g.MaxBytes || r.Steps > g.MaxWork {
		t.Errorf("%.60q needs %+v, but %+v", s, g, r)
	}
}

// picture is an image whose pixels are few colours, some of them not solid.
func picture(width, height int, solid bool) api.Image {
	m := api.Image{Width: width, Height: height}
	for i := range width * height {
		c := []byte{0, 0, 0, 255}
		if i%5 < 3 {
			c = []byte{255, 255, 255, 255}
		}
		if !solid {
			c = []byte{byte(i % 7 * 30), byte(i % 3), 9, byte(i % 4 * 85)}
		}
		m.Pix = append(m.Pix, c...)
	}
	return m
}

// files are those of all formats and options.
func files() (l []string) {
	add := func(s string, e api.Errno) {
		if e == api.OK {
			l = append(l, s)
		}
	}
	for _, m := range []api.Image{picture(5, 3, true), picture(5, 3, false), picture(1, 1, true), picture(9, 1, true)} {
		for _, n := range []int{1, 4, 8, 16, 24, 32} {
			for which := range 4 {
				add(bmp.Write(m, bmp.Options{Depth: n, Packed: which == 1, Masked: which == 2, Top: which == 3}))
				add(sun.Write(m, sun.Options{Bits: n, Type: which}))
				add(pcx.Write(m, pcx.Options{Bits: n, Planes: which + 1}))
				add(tga.Write(m, tga.Options{Bits: n, Alpha: n / 32 * 8, Packed: which == 1, Name: "name"[which:], Left: which == 2, Top: which == 3}))
			}
			add(ico.Write(m, ico.Options{Depth: n, Cursor: n == 8}))
			add(pnm.Write(m, n/4))
			add(pnm.Write(m, 2+n/8))
		}
		add(qoi.Write(m))
		add(ff.Write(m))
	}
	for _, x := range byHand() {
		l = append(l, x.file)
	}
	return append(l, "P2 2 2 9 #\n 1 2 3 9", "P1 3 1 1 0 1", "P3 1 1 1000 7 8 999")
}

// P31.2, P32.1, P32.2, P32.3: whole files of all formats, by all steps and bytes that are too few, and by what they need.
func TestBudgets(t *testing.T) {
	images := map[int]int{}
	for _, s := range files() {
		if budgets(t, s, 1+len(s)/100) {
			images[sniff.Format(s)]++
		}
		enough(t, s)
		if tell(t, s, all) != tell(t, s+"more behind it", all) && sniff.Format(s) != api.PCX {
			t.Errorf("%.60q: bytes behind it change it", s)
		}
	}
	for format := api.BMP; format <= api.SUN; format++ {
		if images[format] < 2 {
			t.Errorf("of %d there were %d images", format, images[format])
		}
	}
}

// P31.2, P32.1, P32.2, P32.3: files that are cut off anywhere, and changed in any byte.
func TestChanged(t *testing.T) {
	for _, s := range files() {
		for n := 0; n < len(s); n += 1 + n/12 {
			budgets(t, s[:n], 1+len(s)/5)
			enough(t, s[:n])
		}
		b := []byte(s)
		for at := 0; at < len(s); at += 1 + at/12 {
			was := b[at]
			for _, v := range []byte{0, 3, 0x7f, 0xff, was + 1, was ^ 0x80} {
				b[at] = v
				changed(t, string(b))
			}
			b[at] = was
		}
	}
}

// changed holds a file that may be great against budgets.
func changed(t *testing.T, s string) {
	t.Helper()
	width, height, _, _ := Config(s)
	if width*height > 1<<12 {
		// Of great files only what is wrong is told here: no sides are let.
		if got := tell(t, s, api.Budget{MaxWidth: width - 1, MaxHeight: height, MaxBytes: math.MaxInt, MaxWork: math.MaxInt}); got.fault.Kind == api.NoFault {
			t.Errorf("%.60q: %d by %d", s, got.width, got.height)
		}
		return
	}
	budgets(t, s, 1+len(s)/2)
	enough(t, s)
}

// P31.2, P32.1, P32.2, P32.3: files with several bytes changed, and any bytes.
func TestAny(t *testing.T) {
	next := random(1)
	l := files()
	for range 4000 {
		b := []byte(l[next(len(l))])
		for range next(5) {
			b[next(min(len(b), 80))] = byte(next(256) >> (next(2) * 5))
		}
		changed(t, string(b))
		b = b[:next(len(b)+1)]
		for i := range b {
			b[i] = byte(next(256))
		}
		changed(t, string(b))
	}
}

// P32.2: a greater budget tells an image again: all budgets of a few numbers about what a file takes.
func TestGreater(t *testing.T) {
	for _, x := range byHand() {
		want := tell(t, x.file, all)
		_, _, r := Decode(x.file, all)
		for _, width := range []int{math.MinInt, -1, 0, 1, 2, math.MaxInt} {
			for _, height := range []int{math.MinInt, -1, 0, 1, 2, math.MaxInt} {
				for _, bytes := range []int{math.MinInt, -1, 0, r.Peak - 1, r.Peak, r.Peak + 1, math.MaxInt} {
					for _, work := range []int{math.MinInt, -1, 0, 1, r.Steps - 1, r.Steps, r.Steps + 1, math.MaxInt} {
						g := api.Budget{MaxWidth: width, MaxHeight: height, MaxBytes: bytes, MaxWork: work}
						got := tell(t, x.file, g)
						lets := width >= 1 && height >= 1 && bytes >= r.Peak && work >= r.Steps
						if lets != (got == want) || lets == (got.fault.Kind == api.Spent) {
							t.Errorf("%.60q by %+v: %+v", x.file, g, got.fault)
						}
					}
				}
			}
		}
	}
}

// P32.1: the first refusal is told, by its reason and what was asked for.
func TestRefusals(t *testing.T) {
	for format, x := range byHand() {
		_, _, r := Decode(x.file, all)
		enough := api.Budget{MaxWidth: 1, MaxHeight: 1, MaxBytes: r.Peak, MaxWork: r.Steps}
		for i, want := range []ledger.Refusal{{Reason: ledger.Sides, Asked: 1}, {Reason: ledger.Sides, Asked: 1}, {Reason: ledger.Bytes}, {Reason: ledger.Work, Asked: 1}} {
			_, f, r := Decode(x.file, less(enough, 1)[i])
			if i == 2 {
				want.Asked = r.Refusal.Asked // of PCX it may be a row's
			}
			if f.Kind != api.Spent || r.Refusal != want || r.Refusal.Asked < 1 {
				t.Errorf("%d: %+v, %+v", format, f, r)
			}
		}
	}
	s, _ := ff.Write(picture(7, 5, false))
	g := api.Budget{MaxWidth: 6, MaxHeight: 4, MaxBytes: 139, MaxWork: 1000}
	for _, want := range []ledger.Refusal{{Reason: ledger.Sides, Asked: 7}, {Reason: ledger.Sides, Asked: 5}, {Reason: ledger.Bytes, Asked: 140}, {}} {
		if _, _, r := Decode(s, g); r.Refusal != want || r.Format != api.FF {
			t.Errorf("%+v, not %+v", r, want)
		}
		switch want.Asked {
		case 7:
			g.MaxWidth++
		case 5:
			g.MaxHeight++
		case 140:
			g.MaxBytes++
		}
	}
}

// P32.1: a ledger that there is counts an image's bytes behind a call, and nothing of what isn't decoded.
func TestWith(t *testing.T) {
	l := ledger.New(api.Budget{MaxWidth: 100, MaxHeight: 100, MaxBytes: 1 << 20, MaxWork: 1 << 30})
	l.Take(77)
	kept := 77
	count := func(s string) {
		m, f := With(l, s)
		want, fault, _ := Decode(s, l.Budget())
		kept += len(m.Pix)
		if !raster.Same(m, want) || f != fault || none(m) != none(want) || l.Bytes() != kept || l.Broken() {
			t.Errorf("%.60q: %+v, not %+v; %d bytes, not %d", s, f, fault, l.Bytes(), kept)
		}
		l.Give(len(m.Pix))
		kept -= len(m.Pix)
	}
	for _, s := range files() {
		count(s)
		for n := 0; n < len(s); n += 1 + n/3 {
			count(s[:n])
		}
	}
	before := l.Steps()
	if _, f := With(l, "no format at all"); f != unknown || l.Steps() != before || l.Bytes() != 77 {
		t.Error(f, l.Steps(), l.Bytes())
	}
}

// P32.1: images stay, one beside the other, until the budget is spent; behind that nothing is decoded with the ledger, but bytes of no format are what they are.
func TestWithSpent(t *testing.T) {
	for format, x := range byHand() {
		_, _, r := Decode(x.file, all)
		l := ledger.New(api.Budget{MaxWidth: 1, MaxHeight: 1, MaxBytes: r.Peak + 8, MaxWork: 1000})
		for i := range 3 {
			m, f := With(l, x.file)
			if string(m.Pix) != x.pix || f != (api.Fault{}) || l.Bytes() != 4*(i+1) {
				t.Errorf("%d: %+v, %+v, %d bytes", format, m, f, l.Bytes())
			}
		}
		for range 2 {
			m, f := With(l, x.file)
			if !none(m) || f.Kind != api.Spent || f.Format != format || f.At < 0 || f.At > len(x.file) || l.Bytes() != 12 {
				t.Errorf("%d: %+v, %+v, %d bytes", format, m, f, l.Bytes())
			}
		}
		if _, f := With(l, "x"); f != unknown {
			t.Error(f)
		}
	}
}

// P32.1: without a ledger.
func TestWithNil(t *testing.T) {
	for format, x := range byHand() {
		for _, s := range []string{x.file, x.file[:len(x.file)-1], x.file + "more"} {
			if m, f := With(nil, s); !none(m) || f != wrong(api.Spent, format, 0) {
				t.Errorf("%d: %+v, %+v", format, m, f)
			}
		}
	}
	// Of no format the chapter's first fault is told.
	for _, s := range []string{"", "x", "GIF89a"} {
		if m, f := With(nil, s); !none(m) || f != unknown {
			t.Errorf("%q: %+v, %+v", s, m, f)
		}
	}
}

// P32.1: what is told is new memory.
func TestNewMemory(t *testing.T) {
	for _, x := range byHand() {
		a, _, _ := Decode(x.file, all)
		b, _, _ := Decode(x.file, all)
		for i := range a.Pix {
			a.Pix[i]++
		}
		_ = append(a.Pix, 1)
		if c, _, _ := Decode(x.file, all); string(b.Pix) != x.pix || string(c.Pix) != x.pix {
			t.Errorf("%q, %q", b.Pix, c.Pix)
		}
	}
}

// P32.1: sides and formats as the plan tells them, of whole files, of heads alone, and of what is wrong.
func TestConfig(t *testing.T) {
	for format, x := range byHand() {
		if w, h, of, f := Config(x.file); w != 1 || h != 1 || of != format || f != (api.Fault{}) {
			t.Errorf("%d: %d, %d, %d, %+v", format, w, h, of, f)
		}
	}
	for _, s := range files() {
		m, _, _ := Decode(s, all)
		if w, h, of, f := Config(s); w != m.Width || h != m.Height || of != sniff.Format(s) || f != (api.Fault{}) {
			t.Errorf("%.60q: %d, %d, %d, %+v", s, w, h, of, f)
		}
		for n := range len(s) {
			p, fault := need.Of(s[:n])
			if w, h, of, f := Config(s[:n]); w != p.Width || h != p.Height || of != p.Format || f != fault {
				t.Errorf("%.60q: %d, %d, %d, %+v", s[:n], w, h, of, f)
			}
		}
	}
	for s, want := range map[string]struct {
		width, height, format int
		fault                 api.Fault
	}{
		"":                               {fault: unknown},
		"x":                              {fault: unknown},
		"P5 7 8 255\n":                   {7, 8, api.PNM, api.Fault{}},
		"P5 7 8 255":                     {fault: wrong(api.Truncated, api.PNM, 10)},
		"P5 7 0 255\n":                   {fault: wrong(api.Malformed, api.PNM, 5)},
		"farbfeld" + be32(16384, 3):      {16384, 3, api.FF, api.Fault{}},
		"farbfeld" + be32(16385, 3):      {fault: wrong(api.Unsupported, api.FF, 8)},
		"qoif" + be32(2, 9) + "\x03":     {fault: wrong(api.Truncated, api.QOI, 13)},
		"qoif" + be32(2, 9) + "\x03\x00": {2, 9, api.QOI, api.Fault{}},
	} {
		if w, h, format, f := Config(s); w != want.width || h != want.height || format != want.format || f != want.fault {
			t.Errorf("%q: %d, %d, %d, %+v", s, w, h, format, f)
		}
	}
}
