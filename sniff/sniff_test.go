package sniff

import (
	"math"
	"slices"
	"strings"
	"testing"

	"tintype/api"
)

// random tells numbers below n, of a seed of its own.
func random(seed uint64) func(n int) int {
	return func(n int) int {
		seed = seed*6364136223846793005 + 1442695040888963407
		return int(seed>>33) % n
	}
}

// formats are all of them.
var formats = []int{api.BMP, api.TGA, api.PNM, api.ICO, api.QOI, api.FF, api.PCX, api.SUN}

// among tells whether a text has one of some bytes at a place.
func among(s string, at int, l string) bool { return strings.IndexByte(l, s[at]) >= 0 }

// meantTGA tells whether a text has TGA's sign, by layer 16's words.
func meantTGA(s string) bool {
	if len(s) < 18 || !among(s, 1, "\x00\x01") || !among(s, 2, "\x01\x02\x03\x09\x0a\x0b") {
		return false
	}
	numbers := among(s, 2, "\x01\x09")
	switch {
	case numbers && s[1] == 0:
		return false
	case s[1] == 1 && !among(s, 7, "\x0f\x10\x18\x20"):
		return false
	case s[12] == 0 && s[13] == 0, s[14] == 0 && s[15] == 0:
		return false
	case among(s, 2, "\x02\x0a"):
		return among(s, 16, "\x0f\x10\x18\x20")
	}
	return s[16] == 8
}

// meant are the formats whose signs a text has, by the words of the layers' chapters, in the order of this one's.
func meant(s string) []int {
	var l []int
	add := func(format int, is bool) {
		if is {
			l = append(l, format)
		}
	}
	n := len(s)
	add(api.BMP, n >= 2 && s[:2] == "BM")
	add(api.PNM, n >= 3 && s[0] == 'P' && among(s, 1, "123456") && among(s, 2, " \t\n\v\f\r#"))
	add(api.QOI, n >= 4 && s[:4] == "qoif")
	add(api.FF, n >= 8 && s[:8] == "farbfeld")
	add(api.SUN, n >= 4 && s[0] == 0x59 && s[1] == 0xa6 && s[2] == 0x6a && s[3] == 0x95)
	add(api.PCX, n >= 4 && s[0] == 10 && among(s, 1, "\x00\x02\x03\x04\x05") && s[2] == 1 && among(s, 3, "\x01\x08"))
	add(api.ICO, n >= 10 && s[0] == 0 && s[1] == 0 && among(s, 2, "\x01\x02") && s[3] == 0 && s[4:6] != "\x00\x00" && s[9] == 0)
	add(api.TGA, meantTGA(s))
	return l
}

// held holds all that is told of a text against the chapters' words, and tells its signs.
func held(t *testing.T, s string) []int {
	t.Helper()
	l := meant(s)
	if got := slices.Collect(All(s)); !slices.Equal(got, l) {
		t.Errorf("%.40q: all are %d, not %d", s, got, l)
	}
	for format := -2; format <= 10; format++ {
		if Has(s, format) != slices.Contains(l, format) {
			t.Errorf("%.40q: has %d is not %t", s, format, slices.Contains(l, format))
		}
	}
	first := api.Unknown
	if len(l) > 0 {
		first = l[0]
	}
	if got := Format(s); got != first {
		t.Errorf("%.40q: %d, not %d", s, got, first)
	}
	// P30.2
	if len(l) > 1 && !slices.Equal(l, []int{api.ICO, api.TGA}) {
		t.Errorf("%.40q: it has the signs of %d", s, l)
	}
	return l
}

// sample is a text, and the formats whose signs it has.
type sample struct {
	text    string
	formats []int
}

// both is the bytes of a cursor's directory, that may be a TGA head, too.
const both = "\x00\x00\x02\x00\x01\x00\x10\x10\x00\x00\x01\x00\x18\x00\x28\x00\x18\x00"

// samples are texts with just the bytes of a sign, or of several.
func samples() []sample {
	return []sample{
		{"BM", []int{api.BMP}},
		{"P1 ", []int{api.PNM}},
		{"P2\t", []int{api.PNM}},
		{"P3\n", []int{api.PNM}},
		{"P4\v", []int{api.PNM}},
		{"P5\f", []int{api.PNM}},
		{"P6\r", []int{api.PNM}},
		{"P6#", []int{api.PNM}},
		{"qoif", []int{api.QOI}},
		{"farbfeld", []int{api.FF}},
		{"\x59\xa6\x6a\x95", []int{api.SUN}},
		{"\x0a\x00\x01\x01", []int{api.PCX}},
		{"\x0a\x02\x01\x08", []int{api.PCX}},
		{"\x0a\x03\x01\x01", []int{api.PCX}},
		{"\x0a\x04\x01\x08", []int{api.PCX}},
		{"\x0a\x05\x01\x08", []int{api.PCX}},
		{"\x00\x00\x01\x00\x01\x00\x10\x10\x00\x00", []int{api.ICO}},
		{"\x00\x00\x02\x00\x00\x01\x00\x00\xff\x00", []int{api.ICO}},
		{"\x00\x00\x02\x00\x00\x00\x00\x00\x00\x00\x00\x00\x01\x00\x01\x00\x18\x00", []int{api.TGA}},
		{"\x00\x01\x01\x00\x00\x00\x01\x18\x00\x00\x00\x00\x01\x00\x01\x00\x08\x00", []int{api.TGA}},
		{"\x0a\x01\x01\x01\x00\x00\x01\x18\x00\x00\x00\x00\x01\x00\x01\x00\x08\x00", []int{api.TGA}},
		{"BM\x02\x00\x00\x00\x00\x00\x00\x00\x00\x00\x01\x00\x01\x00\x18\x00", []int{api.BMP}},
		{"\x00\x00\x02\x00\x01\x00\x10\x10\x00\x01\x01\x00\x18\x00\x28\x00\x18\x00", []int{api.TGA}},
		{both[:17], []int{api.ICO}},
		{both, []int{api.ICO, api.TGA}},
	}
}

// P30.1: signs of all formats, alone and with bytes behind.
func TestSigns(t *testing.T) {
	for _, x := range samples() {
		for _, more := range []string{"", "\x00", "\xff", " and some more bytes behind the sign, which change nothing"} {
			if len(x.text) < 18 && more != "" && x.text[0] == 0 {
				continue // with bytes behind it could be a TGA head, too
			}
			if l := held(t, x.text+more); !slices.Equal(l, x.formats) {
				t.Errorf("%q: %d, not %d", x.text+more, l, x.formats)
			}
		}
	}
}

// P30.1: the chapter's examples.
func TestExamples(t *testing.T) {
	if f := Format("BM"); f != api.BMP {
		t.Errorf("BM is %d", f)
	}
	if f := Format(""); f != api.Unknown {
		t.Errorf("nothing is %d", f)
	}
	if f, ok := Named("a.b.PGM"); f != api.PNM || !ok {
		t.Errorf("a.b.PGM is %d, %t", f, ok)
	}
}

// P30.1, P30.2: signs that are cut off, that stand elsewhere, and those with each byte changed.
func TestChanged(t *testing.T) {
	for _, x := range samples() {
		for n := range len(x.text) {
			held(t, x.text[:n])
		}
		for _, ahead := range []string{" ", "\x00", "\xef\xbb\xbf", "B"} {
			held(t, ahead+x.text)
		}
		for _, more := range []string{"", strings.Repeat("\x00", 18), strings.Repeat("\x01", 18), "\x00\x00\x01\x00\x01\x00\x18\x00"} {
			b := []byte(x.text + more)
			for at, was := range b {
				for v := range 256 {
					b[at] = byte(v)
					held(t, string(b))
				}
				b[at] = was
			}
		}
	}
}

// alphabet is the bytes that signs have, or just haven't, at a place.
func alphabet(at int) string {
	const common = "\x00\x01\x08\x0f\x10\x18\x20\xff"
	switch at {
	case 0:
		return "BPqf\x59\x0a" + common
	case 1:
		return "Moa07126\xa6\x02\x03\x04\x05\x06" + common
	case 2:
		return "irP# \n\x6a\x02\x03\x04\x09\x0a\x0b\x0c" + common
	case 3:
		return "fb\x95\x02\x07\x09" + common
	}
	return "feld" + common
}

// P30.2, P30.1: all beginnings of the bytes that signs have, ahead of bytes of a TGA head, and of others.
func TestBeginnings(t *testing.T) {
	counts := map[int]int{}
	for _, a := range []byte(alphabet(0)) {
		for _, b := range []byte(alphabet(1)) {
			for _, c := range []byte(alphabet(2)) {
				for _, d := range []byte(alphabet(3)) {
					begin := string([]byte{a, b, c, d})
					for _, rest := range []string{"", "\x00", "\x01\x00\x10\x18\x00\x00\x01\x00\x18\x00\x28\x00\x18\x00", "\x01\x00\x10\x18\x00\x00\x01\x00\x18\x00\x28\x00\x08\x00", "feld"} {
						counts[len(held(t, begin+rest))]++
					}
				}
			}
		}
	}
	for n := range 3 {
		if counts[n] == 0 {
			t.Errorf("no text has %d signs", n)
		}
	}
}

// P30.2, P30.1: any bytes of those that signs have.
func TestAny(t *testing.T) {
	next := random(1)
	counts := map[int]int{}
	for range 200000 {
		b := make([]byte, next(24))
		for at := range b {
			l := alphabet(at)
			b[at] = l[next(len(l))]
		}
		if next(4) == 0 {
			l := samples()
			copy(b, l[next(len(l))].text)
		}
		for _, format := range held(t, string(b)) {
			counts[format]++
		}
	}
	for _, format := range formats {
		if counts[format] == 0 {
			t.Errorf("no text is of %d", format)
		}
	}
}

// P30.1: numbers that are no formats.
func TestNoFormat(t *testing.T) {
	for _, format := range []int{math.MinInt, math.MinInt32, -8, -1, 0, 9, 10, 256 + api.BMP, math.MaxInt32, 1<<32 + api.BMP, math.MaxInt} {
		for _, x := range samples() {
			if Has(x.text, format) {
				t.Errorf("%q has the sign of %d", x.text, format)
			}
		}
		if e := Extension(format); e != "" {
			t.Errorf("%d: %q", format, e)
		}
	}
}

// P30.1: who goes over the formats may stop, and may do it again, also while it is done.
func TestAllStops(t *testing.T) {
	seq := All(both)
	for n := range 4 {
		var l []int
		seq(func(format int) bool {
			l = append(l, format)
			return len(l) < n
		})
		if want := []int{api.ICO, api.TGA}[:min(max(n, 1), 2)]; !slices.Equal(l, want) {
			t.Errorf("up to %d: %d, not %d", n, l, want)
		}
	}
	var l []int
	for a := range seq {
		for b := range seq {
			l = append(l, a, b)
		}
	}
	if want := []int{4, 4, 4, 2, 2, 4, 2, 2}; !slices.Equal(l, want) {
		t.Errorf("%d, not %d", l, want)
	}
	for format := range All("none") {
		t.Errorf("%d is told of no sign", format)
	}
}

// P30.1: extensions, and the formats that they are of as endings of names.
func TestExtension(t *testing.T) {
	want := []string{"", "bmp", "tga", "ppm", "ico", "qoi", "ff", "pcx", "ras"}
	for format, e := range want {
		if got := Extension(format); got != e {
			t.Errorf("%d: %q, not %q", format, got, e)
		}
		got, ok := Named("x." + e)
		if got != format || ok != (format != api.Unknown) {
			t.Errorf("x.%s: %d, %t", e, got, ok)
		}
	}
}

// endingsMeant are those of the chapter's words.
func endingsMeant() map[string]int {
	return map[string]int{
		"bmp": 1, "dib": 1,
		"tga": 2,
		"ppm": 3, "pbm": 3, "pgm": 3, "pnm": 3,
		"ico": 4, "cur": 4,
		"qoi": 5,
		"ff":  6,
		"pcx": 7,
		"ras": 8, "sun": 8,
	}
}

// expect holds a name's format against what is meant.
func expect(t *testing.T, name string, format int, ok bool) {
	t.Helper()
	if got, is := Named(name); got != format || is != ok {
		t.Errorf("%q: %d, %t, not %d, %t", name, got, is, format, ok)
	}
}

// P30.1: the endings, in small letters and great ones, each way, behind any names.
func TestNamed(t *testing.T) {
	for e, format := range endingsMeant() {
		for which := range 1 << len(e) {
			b := []byte(e)
			for i := range b {
				if which>>i&1 == 1 {
					b[i] -= 'a' - 'A'
				}
			}
			for _, ahead := range []string{"", "a", "a.b", ".", "..", "a/b.c/d", "bmp.tga", "\x00", "\xff", "ü", "a b ", strings.Repeat("long.", 1000)} {
				expect(t, ahead+"."+string(b), format, true)
			}
		}
	}
}

// P30.1: names without a full stop, and those with another ending.
func TestNotNamed(t *testing.T) {
	for _, name := range []string{"", ".", "..", "a", "a.", "bmp.", "a.b.", "bmp", "PGM", "a/bmp", "a.txt", "a.bm", "a.bmpp", "a.f", "a.fff", "a. bmp", "a.bmp ", "a.bmp/b", "a.bmp\n", "a.pp\x6d\x00", "a.jpg", "a.png", "a.farbfeld", "a.unknown", "a,bmp", "a\xc2\xb7bmp", "a.\xff\xff\xff"} {
		expect(t, name, api.Unknown, false)
	}
	for e, format := range endingsMeant() {
		expect(t, e, api.Unknown, false)
		expect(t, "a."+e+".", api.Unknown, false)
		expect(t, "a."+e+".x", api.Unknown, false)
		expect(t, "a."+e+e, api.Unknown, false)
		expect(t, "a."+e[:1], api.Unknown, false)
		expect(t, "a.."+e, format, true)
	}
}

// P30.1: letters that aren't from A to Z aren't made small, though some have such small ones.
func TestOtherLetters(t *testing.T) {
	for _, name := range []string{"a.\u0130co", "a.qo\u0130", "a.D\u0130B", "a.\u0131co", "a.ra\u017f", "a.\u017fun", "a.\uff42\uff4d\uff50", "a.\u212aco"} {
		expect(t, name, api.Unknown, false)
	}
}

// P30.1: all endings of two and three letters, and those with each byte changed.
func TestEndings(t *testing.T) {
	known := endingsMeant()
	const letters = "abcdefghijklmnopqrstuvwxyz"
	for _, a := range letters {
		for _, b := range letters {
			e := string([]rune{a, b})
			expect(t, "."+e, known[e], known[e] != 0)
			for _, c := range letters {
				e := string([]rune{a, b, c})
				expect(t, "."+e, known[e], known[e] != 0)
			}
		}
	}
	for e, format := range known {
		for at := range e {
			b := []byte(e)
			for v := range 256 {
				if v == '.' {
					continue // behind it another ending stands, of fewer letters
				}
				b[at] = byte(v)
				low := v
				if v >= 'A' && v <= 'Z' {
					low = v + 'a' - 'A'
				}
				want := known[e[:at]+string([]byte{byte(low)})+e[at+1:]]
				expect(t, "x."+string(b), want, want != 0)
			}
			expect(t, "x."+e, format, true)
		}
	}
}
