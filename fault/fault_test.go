package fault

import (
	"math"
	"strconv"
	"strings"
	"testing"

	"tintype/api"
)

const most = api.MaxNumber

// kinds and formats are the chapter's words, by their numbers.
var kinds = []string{"none", "truncated", "malformed", "unsupported", "spent"}
var formats = []string{"unknown", "bmp", "tga", "pnm", "ico", "qoi", "ff", "pcx", "sun"}

// numbers are those about the ends of kinds and formats, and far from them.
var numbers = []int{math.MinInt, -most, -9, -2, -1, 0, 1, 2, 3, 4, 5, 6, 7, 8, 9, 10, 255, 256, 1 << 32, most, math.MaxInt}

// places are those about the ends of what a place may be, and about changes of the count of digits.
var places = []int{
	math.MinInt, math.MinInt + 1, -most, -10, -1,
	0, 1, 9, 10, 14, 99, 100, 1<<31 - 1, 1 << 31, 1<<32 + 1,
	999999999999999999, 1000000000000000000, most - 1, most,
	most + 1, most + 8, math.MaxInt - 1, math.MaxInt,
}

// mayBe is whether the chapter lets a fault be.
func mayBe(f api.Fault) bool {
	if f.Kind == 0 {
		return f.Format == 0 && f.At == 0
	}
	return 1 <= f.Kind && f.Kind <= 4 && 0 <= f.Format && f.Format <= 8 && 0 <= f.At && f.At <= most
}

// everyFault calls try with all faults of numbers and places.
func everyFault(try func(f api.Fault)) {
	for _, kind := range numbers {
		for _, format := range numbers {
			for _, at := range places {
				try(api.Fault{Kind: kind, Format: format, At: at})
			}
		}
	}
}

// P3.1: the words, and none of other numbers.
func TestWords(t *testing.T) {
	want := func(words []string, n int) string {
		if n < 0 || n >= len(words) {
			return ""
		}
		return words[n]
	}
	for _, n := range numbers {
		if got := Kind(n); got != want(kinds, n) {
			t.Errorf("Kind(%d) = %q", n, got)
		}
		if got := Format(n); got != want(formats, n) {
			t.Errorf("Format(%d) = %q", n, got)
		}
	}
}

// P3.1: the words are those of api's numbers.
func TestWordsOfConstants(t *testing.T) {
	cases := []struct{ got, want string }{
		{Kind(api.NoFault), "none"}, {Kind(api.Truncated), "truncated"}, {Kind(api.Malformed), "malformed"},
		{Kind(api.Unsupported), "unsupported"}, {Kind(api.Spent), "spent"},
		{Format(api.Unknown), "unknown"}, {Format(api.BMP), "bmp"}, {Format(api.TGA), "tga"},
		{Format(api.PNM), "pnm"}, {Format(api.ICO), "ico"}, {Format(api.QOI), "qoi"},
		{Format(api.FF), "ff"}, {Format(api.PCX), "pcx"}, {Format(api.SUN), "sun"},
	}
	for _, c := range cases {
		if c.got != c.want {
			t.Errorf("%q, not %q", c.got, c.want)
		}
	}
}

// P3.1: Right of all kinds, formats and places.
func TestRight(t *testing.T) {
	everyFault(func(f api.Fault) {
		if got := Right(f); got != mayBe(f) {
			t.Errorf("Right(%+v) = %t", f, got)
		}
	})
}

// P3.1, P3.2: the text of a fault that may be, and back; none of another one.
func TestTextAndBack(t *testing.T) {
	right := 0
	everyFault(func(f api.Fault) {
		s, e := Text(f)
		if !mayBe(f) {
			if s != "" || e != api.ErrArg {
				t.Errorf("Text(%+v) = %q, %d", f, s, e)
			}
			return
		}
		right++
		want := kinds[f.Kind] + " " + formats[f.Format] + " " + strconv.Itoa(f.At)
		if s != want || e != api.OK {
			t.Errorf("Text(%+v) = %q, %d, not %q", f, s, e, want)
		}
		if back, e := Parse(s); back != f || e != api.OK {
			t.Errorf("Parse(%q) = %+v, %d, not %+v", s, back, e, f)
		}
	})
	if want := 1 + 4*9*14; right != want {
		t.Errorf("%d faults that may be, not %d", right, want)
	}
}

// P3.1: the example of the chapter, and others by hand.
func TestExamples(t *testing.T) {
	cases := []struct {
		f api.Fault
		s string
	}{
		{api.Fault{Kind: 2, Format: 1, At: 14}, "malformed bmp 14"},
		{api.Fault{}, "none unknown 0"},
		{api.Fault{Kind: api.Unsupported}, "unsupported unknown 0"},
		{api.Fault{Kind: api.Truncated, Format: api.ICO, At: 6}, "truncated ico 6"},
		{api.Fault{Kind: api.Spent, Format: api.SUN, At: most}, "spent sun 4611686018427387904"},
	}
	for _, c := range cases {
		if s, e := Text(c.f); s != c.s || e != api.OK {
			t.Errorf("Text(%+v) = %q, %d", c.f, s, e)
		}
		if f, e := Parse(c.s); f != c.f || e != api.OK {
			t.Errorf("Parse(%q) = %+v, %d", c.s, f, e)
		}
	}
}

// P3.1: texts of no fault that may be.
func TestParseWrong(t *testing.T) {
	cases := []string{
		"", " ", "  ", "malformed", "malformed ", "malformed bmp", "malformed bmp ", " bmp 14", "malformed  14", "bmp 14", "14",
		" malformed bmp 14", "malformed bmp 14 ", "malformed  bmp 14", "malformed bmp  14", "malformed bmp 14\n", "malformed\tbmp 14",
		"malformed bmp\n14", "malformed bmp 1 4", "malformed bmp 14 0", "malformed bmp 14 malformed bmp 14", "bmp malformed 14",
		"Malformed bmp 14", "MALFORMED BMP 14", "malformed BMP 14", "malforme bmp 14", "malformedd bmp 14", "malformed bm 14", "malformed bmpp 14",
		"malformed png 14", "odd bmp 14", "malformed none 14", "unknown bmp 14", "2 1 14", "malformed 1 14", "2 bmp 14",
		"malformed bmp 014", "malformed bmp 00", "malformed bmp +14", "malformed bmp -14", "malformed bmp -0", "malformed bmp +0",
		"malformed bmp 1_4", "malformed bmp 0x0e", "malformed bmp 0b1", "malformed bmp 1e1", "malformed bmp 14.0", "malformed bmp e",
		"malformed bmp 14\x00", "malformed bmp \x0014", "malformed bmp \xef\xbc\x91", "malformed bmp \xd9\xa1", "malformed\x00bmp 14", "malformed\xc2\xa0bmp 14",
		"malformed bmp /", "malformed bmp :", "malformed bmp 1/", "malformed bmp 1:",
		"none unknown 1", "none unknown 00", "none unknown", "none bmp 0", "none bmp 1", "none sun 0", "none unknown 4611686018427387904",
		"spent sun 4611686018427387905", "spent sun 4611686018427387909", "spent sun 4611686018427387910", "spent sun 5000000000000000000",
		"spent sun 9223372036854775807", "spent sun 9223372036854775808", "spent sun 9223372036854775809", "spent sun 9999999999999999999",
		"spent sun 18446744073709551615", "spent sun 18446744073709551616", "spent sun 18446744073709551630", "spent sun 46116860184273879040",
		"spent sun " + strings.Repeat("9", 1000), "spent sun " + strings.Repeat("0", 1000), strings.Repeat(" ", 1000), strings.Repeat("none ", 1000),
	}
	for _, s := range cases {
		if f, e := Parse(s); f != (api.Fault{}) || e != api.ErrForm {
			t.Errorf("Parse(%q) = %+v, %d", s, f, e)
		}
	}
}

// check holds Parse of a text against Text: it is a fault's, if and only if Text tells it.
func check(t *testing.T, s string) {
	t.Helper()
	f, e := Parse(s)
	if e == api.ErrForm && f == (api.Fault{}) {
		return
	}
	if back, e2 := Text(f); e != api.OK || back != s || e2 != api.OK {
		t.Errorf("Parse(%q) = %+v, %d, whose text is %q, %d", s, f, e, back, e2)
	}
}

// P3.1, P3.2: a text that is changed at one place is none, or another fault's.
func TestParseChanged(t *testing.T) {
	for _, s := range []string{"malformed bmp 14", "none unknown 0", "spent sun 4611686018427387904", "truncated ff 100"} {
		for i := range len(s) {
			check(t, s[:i])
			check(t, s[i:])
			check(t, s[:i]+s[i+1:])
			for c := range 256 {
				check(t, s[:i]+string([]byte{byte(c)})+s[i+1:])
				check(t, s[:i]+string([]byte{byte(c)})+s[i:])
				check(t, s+string([]byte{byte(c)}))
			}
		}
	}
}

// P3.1, P3.2: of all texts of four parts just those of faults are parsed.
func TestParseParts(t *testing.T) {
	parts := []string{"", " ", "none", "spent", "unknown", "qoi", "0", "7", "none ", "spent ", "unknown ", "qoi ", "-", "+"}
	parsed := map[string]bool{}
	for _, a := range parts {
		for _, b := range parts {
			for _, c := range parts {
				for _, d := range parts {
					s := a + b + c + d
					check(t, s)
					if _, e := Parse(s); e == api.OK {
						parsed[s] = true
					}
				}
			}
		}
	}
	want := []string{
		"none unknown 0", "spent unknown 0", "spent qoi 0", "spent unknown 7", "spent qoi 7",
		"spent unknown 70", "spent qoi 70", "spent unknown 77", "spent qoi 77",
	}
	for _, s := range want {
		if !parsed[s] {
			t.Errorf("%q isn't parsed", s)
		}
	}
	if len(parsed) != len(want) {
		t.Errorf("%d texts are parsed, not %d: %v", len(parsed), len(want), parsed)
	}
}

func expect(t *testing.T, l *Latch, is bool, f api.Fault) {
	t.Helper()
	if l.Is() != is || l.Get() != f {
		t.Errorf("%t %+v, not %t %+v", l.Is(), l.Get(), is, f)
	}
}

// P3.1: a latch keeps the first fault, and no later one.
func TestLatch(t *testing.T) {
	first, later := api.Fault{Kind: api.Malformed, Format: api.BMP, At: 14}, api.Fault{Kind: api.Truncated, Format: api.BMP, At: 2}
	l := NewLatch()
	expect(t, l, false, api.Fault{})
	if !l.Note(first) {
		t.Error("the first one isn't kept")
	}
	expect(t, l, true, first)
	if l.Note(later) || l.Note(first) || l.Note(api.Fault{}) {
		t.Error("a later one is kept")
	}
	expect(t, l, true, first)
}

// P3.1: what is of the kind 0 isn't kept, whatever else it has, and keeps nothing away.
func TestLatchWithoutFault(t *testing.T) {
	l := NewLatch()
	for _, f := range []api.Fault{{}, {Format: api.SUN}, {At: 5}, {Format: -1, At: -1}} {
		if l.Note(f) {
			t.Errorf("%+v is kept", f)
		}
		expect(t, l, false, api.Fault{})
	}
	f := api.Fault{Kind: api.Spent}
	if !l.Note(f) {
		t.Error("the first fault isn't kept")
	}
	expect(t, l, true, f)
}

// P3.1: a fault that may not be is kept, too.
func TestLatchOfAny(t *testing.T) {
	later := api.Fault{Kind: api.Spent, Format: api.PCX, At: 3}
	everyFault(func(f api.Fault) {
		l := NewLatch()
		kept := f.Kind != 0
		if l.Note(f) != kept {
			t.Errorf("Note(%+v)", f)
		}
		want := f
		if !kept {
			want = api.Fault{}
		}
		expect(t, l, kept, want)
		if l.Note(later) == kept {
			t.Errorf("a fault behind %+v", f)
		}
		if !kept {
			want = later
		}
		expect(t, l, true, want)
	})
}

// Two latches don't share what they keep.
func TestTwoLatches(t *testing.T) {
	one, other := NewLatch(), NewLatch()
	f := api.Fault{Kind: api.Truncated, Format: api.QOI, At: 8}
	one.Note(f)
	expect(t, one, true, f)
	expect(t, other, false, api.Fault{})
}
