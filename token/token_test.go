package token

import (
	"math"
	"math/big"
	"strings"
	"testing"

	"tintype/api"
	"tintype/ledger"
	"tintype/src"
)

// answer is all that a call tells: a number, its place, what is wrong; and the source's place behind it.
type answer struct {
	v, at  int
	f      api.Fault
	behind int
}

// call is Over, Number, Digit or One, with zeros in place of what it doesn't tell.
type call func(s *src.Src) (v, at int, f api.Fault)

func over(s *src.Src) (v, at int, f api.Fault) { return 0, 0, Over(s) }

func one(s *src.Src) (v, at int, f api.Fault) { return 0, 0, One(s) }

func wrong(kind, at int) answer {
	return answer{f: api.Fault{Kind: kind, Format: api.PNM, At: at}}
}

// source goes over s from a place to another, and may do so many steps.
func source(t *testing.T, steps int, s string, from, to int) *src.Src {
	t.Helper()
	x, e := src.New(ledger.New(api.Budget{MaxWork: steps}), s)
	if e != api.OK {
		t.Fatalf("no source of %q: %d", s, e)
	}
	w, ok := x.Window(from, to-from)
	if !ok {
		t.Fatalf("%q has no window from %d to %d", s, from, to)
	}
	return w
}

// tell is what a call tells of a source. Behind Malformed and Truncated the source's place is free, so it isn't looked at.
func tell(s *src.Src, do call) answer {
	var a answer
	a.v, a.at, a.f = do(s)
	if a.f.Kind == api.NoFault {
		a.behind = s.At()
	}
	return a
}

// expect holds a call on all of s, from a place on, against what it should tell, with steps enough.
func expect(t *testing.T, name string, do call, s string, place int, want answer) {
	t.Helper()
	x := source(t, math.MaxInt, s, 0, len(s))
	x.Seek(place)
	if got := tell(x, do); got != want {
		t.Errorf("%s of %q from %d: %+v, not %+v", name, s, place, got, want)
	}
}

// P11.1: of all numbers just six are blank bytes.
func TestBlank(t *testing.T) {
	blank := map[int]bool{0x20: true, 9: true, 0xa: true, 0xb: true, 0xc: true, 0xd: true}
	for b := -1000; b <= 1000; b++ {
		if Blank(b) != blank[b] {
			t.Errorf("%#x: %t", b, Blank(b))
		}
	}
	for _, b := range []int{math.MinInt, math.MinInt + 32, -1 << 32, 1<<32 + 32, 1<<32 + 9, 1<<62 + 13, 256 + 32, math.MaxInt} {
		if Blank(b) {
			t.Errorf("%d is blank", b)
		}
	}
}

// P11.1: the chapter's example.
func TestExample(t *testing.T) {
	expect(t, "Number", Number, " #x\n12 ", 0, answer{v: 12, at: 4, behind: 6})
}

// P11.1: blanks and remarks are gone over, up to a byte that is neither, or the end.
func TestOver(t *testing.T) {
	for _, x := range []struct {
		s             string
		place, behind int
	}{
		{"", 0, 0},
		{"x", 0, 0},
		{"x", 1, 1},
		{"\x00 ", 0, 0},
		{" ", 0, 1},
		{" \t\n\v\f\r", 0, 6},
		{" \t\n\v\f\rx ", 0, 6},
		{" x y", 1, 1},
		{" x  y", 2, 4},
		{"\xa0", 0, 0},
		{"\x85", 0, 0},
		{"\x08", 0, 0},
		{"\x0e", 0, 0},
		{"\x1f", 0, 0},
		{"!", 0, 0},
		{"#", 0, 1},
		{"# a 1", 0, 5},
		{"#\n", 0, 2},
		{"#\r", 0, 2},
		{"#a\n1", 0, 3},
		{"#a\r1", 0, 3},
		{"#a\r\n1", 0, 4},
		{"#a\n\r1", 0, 4},
		{"#\v1\f2\t3 4", 0, 9},
		{"##\n#\n#x#\n#", 0, 10},
		{"#\x00\xff\n0", 0, 4},
		{" # a\n # b\r\n 7 # c\n", 0, 12},
		{"x#y\nz", 1, 4},
		{"ab\ncd", 2, 3},
	} {
		expect(t, "Over", over, x.s, x.place, answer{behind: x.behind})
	}
}

// P11.1: numbers, their places and what stands behind them.
func TestNumber(t *testing.T) {
	for _, x := range []struct {
		s                string
		place, v, at, to int
	}{
		{"0", 0, 0, 0, 1},
		{"9", 0, 9, 0, 1},
		{"10", 0, 10, 0, 2},
		{"0123456789", 0, 123456789, 0, 10},
		{"987654321x", 0, 987654321, 0, 9},
		{"12 34", 0, 12, 0, 2},
		{"12 34", 2, 34, 3, 5},
		{"12#34\n", 0, 12, 0, 2},
		{"12#34\n5", 2, 5, 6, 7},
		{"12\n", 0, 12, 0, 2},
		{"1234", 2, 34, 2, 4},
		{"00000000000000000000012", 0, 12, 0, 23},
		{"7/", 0, 7, 0, 1},
		{"7:", 0, 7, 0, 1},
		{"7\x00", 0, 7, 0, 1},
		{"7\xb5", 0, 7, 0, 1},
		{"7-1", 0, 7, 0, 1},
		{"7.5", 0, 7, 0, 1},
		{"\r\n#\r\n42", 0, 42, 5, 7},
	} {
		expect(t, "Number", Number, x.s, x.place, answer{v: x.v, at: x.at, behind: x.to})
	}
}

// P11.1: above 999999999 all numbers count as 1000000000, however many digits they have.
func TestGreatNumber(t *testing.T) {
	texts := []string{"99999999", "999999998", "999999999", "1000000000", "1000000001", "1999999999", "2147483648", "4294967295", "4294967296", "4294967297",
		"9223372036854775807", "9223372036854775808", "18446744073709551615", "18446744073709551616", "18446744073709551617", "100000000000000000000000000000000000000000",
		strings.Repeat("9", 1000), "0000000000999999999", "00000000001000000000", strings.Repeat("0", 1000) + "999999999", "1" + strings.Repeat("0", 64)}
	most := big.NewInt(1000000000)
	for _, s := range texts {
		want, _ := new(big.Int).SetString(s, 10)
		if want.Cmp(most) > 0 {
			want = most
		}
		expect(t, "Number", Number, s+" 5", 0, answer{v: int(want.Int64()), at: 0, behind: len(s)})
		expect(t, "Number", Number, s, 0, answer{v: int(want.Int64()), at: 0, behind: len(s)})
	}
}

// P11.1: all numbers of up to five digits are what they are.
func TestAllNumbers(t *testing.T) {
	for v := range 100000 {
		s := big.NewInt(int64(v)).String()
		expect(t, "Number", Number, s+"\n", 0, answer{v: v, behind: len(s)})
	}
}

// P11.1: where no number stands, its first byte, or the end, is told.
func TestNoNumber(t *testing.T) {
	for _, x := range []struct {
		s     string
		place int
		want  answer
	}{
		{"", 0, wrong(api.Truncated, 0)},
		{"12", 2, wrong(api.Truncated, 2)},
		{"   ", 0, wrong(api.Truncated, 3)},
		{"   ", 1, wrong(api.Truncated, 3)},
		{"# 12", 0, wrong(api.Truncated, 4)},
		{"#12\n", 0, wrong(api.Truncated, 4)},
		{"x", 0, wrong(api.Malformed, 0)},
		{" x", 0, wrong(api.Malformed, 1)},
		{"12 x", 2, wrong(api.Malformed, 3)},
		{"#1\n-1", 0, wrong(api.Malformed, 3)},
		{"+1", 0, wrong(api.Malformed, 0)},
		{"/", 0, wrong(api.Malformed, 0)},
		{":", 0, wrong(api.Malformed, 0)},
		{"\x001", 0, wrong(api.Malformed, 0)},
		{"\xb1", 0, wrong(api.Malformed, 0)},
	} {
		expect(t, "Number", Number, x.s, x.place, x.want)
	}
}

// P11.1: a digit is one byte, 0 or 1; what stands behind it isn't looked at.
func TestDigit(t *testing.T) {
	for _, x := range []struct {
		s     string
		place int
		want  answer
	}{
		{"0", 0, answer{v: 0, at: 0, behind: 1}},
		{"1", 0, answer{v: 1, at: 0, behind: 1}},
		{"10", 0, answer{v: 1, at: 0, behind: 1}},
		{"10", 1, answer{v: 0, at: 1, behind: 2}},
		{"01x", 1, answer{v: 1, at: 1, behind: 2}},
		{"1x", 0, answer{v: 1, at: 0, behind: 1}},
		{" #0\r1 ", 0, answer{v: 1, at: 4, behind: 5}},
		{"1#\n0", 1, answer{v: 0, at: 3, behind: 4}},
		{"", 0, wrong(api.Truncated, 0)},
		{"1", 1, wrong(api.Truncated, 1)},
		{"# 1", 0, wrong(api.Truncated, 3)},
		{"\n\n", 0, wrong(api.Truncated, 2)},
		{"2", 0, wrong(api.Malformed, 0)},
		{" 9", 0, wrong(api.Malformed, 1)},
		{"/", 0, wrong(api.Malformed, 0)},
		{"\x00", 0, wrong(api.Malformed, 0)},
		{"\x01", 0, wrong(api.Malformed, 0)},
		{"\xb0", 0, wrong(api.Malformed, 0)},
		{"#\n -1", 0, wrong(api.Malformed, 3)},
	} {
		expect(t, "Digit", Digit, x.s, x.place, x.want)
	}
}

// P11.1: of all bytes One takes the blank ones, and no more than one; a remark isn't a blank.
func TestOne(t *testing.T) {
	for b := range 256 {
		want := wrong(api.Malformed, 1)
		if strings.IndexByte(" \t\n\v\f\r", byte(b)) >= 0 {
			want = answer{behind: 2}
		}
		expect(t, "One", one, "x"+string([]byte{byte(b)}), 1, want)
		expect(t, "One", one, "x"+string([]byte{byte(b)})+"  ", 1, want)
	}
	expect(t, "One", one, "", 0, wrong(api.Truncated, 0))
	expect(t, "One", one, "  ", 2, wrong(api.Truncated, 2))
}

// P11.1: nothing is read beyond a window, and places are those of the whole text.
func TestWindow(t *testing.T) {
	for _, x := range []struct {
		name     string
		do       call
		s        string
		from, to int
		want     answer
	}{
		{"Over", over, "    x", 1, 3, answer{behind: 3}},
		{"Over", over, "#a\nb", 1, 4, answer{behind: 1}},
		{"Over", over, " #ab\n1", 1, 3, answer{behind: 3}},
		{"Number", Number, "123456", 1, 4, answer{v: 234, at: 1, behind: 4}},
		{"Number", Number, "1 23456", 1, 4, answer{v: 23, at: 2, behind: 4}},
		{"Number", Number, "1 23456", 1, 2, wrong(api.Truncated, 2)},
		{"Number", Number, "1#23\n456", 1, 4, wrong(api.Truncated, 4)},
		{"Number", Number, "1 x3", 1, 3, wrong(api.Malformed, 2)},
		{"Number", Number, "123", 2, 2, wrong(api.Truncated, 2)},
		{"Digit", Digit, "x 01", 1, 3, answer{v: 0, at: 2, behind: 3}},
		{"Digit", Digit, "x 01", 1, 2, wrong(api.Truncated, 2)},
		{"One", one, "x  y", 1, 2, answer{behind: 2}},
		{"One", one, "x  y", 2, 2, wrong(api.Truncated, 2)},
		{"One", one, "x  y", 3, 4, wrong(api.Malformed, 3)},
	} {
		if got := tell(source(t, math.MaxInt, x.s, x.from, x.to), x.do); got != x.want {
			t.Errorf("%s of %q from %d to %d: %+v, not %+v", x.name, x.s, x.from, x.to, got, x.want)
		}
	}
}

// modelOver is how many bytes of a text are blanks and remarks, by the chapter's words.
func modelOver(s string) int {
	rest := s
	for {
		rest = strings.TrimLeft(rest, "\x20\x09\x0a\x0b\x0c\x0d")
		if !strings.HasPrefix(rest, "#") {
			return len(s) - len(rest)
		}
		end := strings.IndexAny(rest, "\x0a\x0d")
		if end < 0 {
			return len(s)
		}
		rest = rest[end+1:]
	}
}

// model is what a call with digits up to most, and so many of them, tells of a whole text.
func model(s string, most string, digits int) answer {
	at := modelOver(s)
	n := 0
	for at+n < len(s) && n < digits && strings.IndexByte(most, s[at+n]) >= 0 {
		n++
	}
	switch {
	case n > 0:
		v, _ := new(big.Int).SetString(s[at:at+n], 10)
		return answer{v: int(v.Int64()), at: at, behind: at + n}
	case at == len(s):
		return wrong(api.Truncated, at)
	}
	return wrong(api.Malformed, at)
}

// texts tells all texts of up to n bytes of an alphabet.
func texts(alphabet string, n int, tell func(s string)) {
	level := []string{""}
	for range n + 1 {
		var next []string
		for _, s := range level {
			tell(s)
			for i := range len(alphabet) {
				next = append(next, s+alphabet[i:i+1])
			}
		}
		level = next
	}
}

// readings holds a call on all of s against the model: with steps enough it takes at most len(s) + 2 of them; with fewer it tells the same, or Spent at a place that the source has.
func readings(t *testing.T, name string, do call, s string, want answer) {
	t.Helper()
	told := false
	for steps := range len(s) + 3 {
		x := source(t, steps, s, 0, len(s))
		got := tell(x, do)
		switch {
		case got == want:
			told = true
			if want.f.Kind == api.NoFault && x.Ledger().Broken() {
				t.Errorf("%s of %q with %d steps: told by more", name, s, steps)
			}
		case told || got != wrong(api.Spent, got.f.At) || got.f.At != x.At() || !x.Ledger().Broken():
			t.Errorf("%s of %q with %d steps: %+v, not %+v", name, s, steps, got, want)
		}
	}
	if !told {
		t.Errorf("%s of %q: not told by %d steps: %+v", name, s, len(s)+2, want)
	}
}

// P11.1: of all short texts, by all steps up to those that the chapter grants.
func TestAllTexts(t *testing.T) {
	texts(" \n\r#019x", 6, func(s string) {
		readings(t, "Over", over, s, answer{behind: modelOver(s)})
		readings(t, "Number", Number, s, model(s, "0123456789", len(s)))
		readings(t, "Digit", Digit, s, model(s, "01", 1))
	})
	texts("\t\v\f\x00/28:\x80\xa0", 4, func(s string) {
		readings(t, "Over", over, s, answer{behind: modelOver(s)})
		readings(t, "Number", Number, s, model(s, "0123456789", len(s)))
		readings(t, "Digit", Digit, s, model(s, "01", 1))
	})
}

// P11.1: a long text takes no more readings either, wherever its number stands.
func TestReadings(t *testing.T) {
	const n = 1000
	for _, x := range []struct {
		do call
		s  string
	}{
		{Number, strings.Repeat(" ", n)},
		{Number, strings.Repeat(" ", n-1) + "1"},
		{Number, strings.Repeat(" ", n/2) + strings.Repeat("1", n/2)},
		{Number, strings.Repeat("1", n)},
		{Number, strings.Repeat("1", n-1) + " "},
		{Number, "#" + strings.Repeat("#", n-1)},
		{Number, strings.Repeat("#\n", n/2)},
		{Number, strings.Repeat(" ", n-1) + "x"},
		{Digit, strings.Repeat("\n", n)},
		{Digit, strings.Repeat("\n", n-1) + "1"},
		{Digit, strings.Repeat("\n", n-1) + "2"},
		{Digit, strings.Repeat("#\r", n/2)},
		{Digit, strings.Repeat("1", n)},
	} {
		s := source(t, math.MaxInt, x.s, 0, n)
		x.do(s)
		if s.Ledger().Steps() > n+2 {
			t.Errorf("%d readings of %q", s.Ledger().Steps(), x.s)
		}
	}
}

// P11.1: a step that is refused is told at the byte that wasn't read, beside zero values; a ledger that is broken already lets none.
func TestSpent(t *testing.T) {
	for _, x := range []struct {
		name  string
		do    call
		s     string
		steps int
		at    int
	}{
		{"Over", over, "x", 0, 0},
		{"Over", over, "  x", 2, 2},
		{"Over", over, "#ab\n", 2, 2},
		{"Number", Number, "", 0, 0},
		{"Number", Number, "12", 0, 0},
		{"Number", Number, "   12", 2, 2},
		{"Digit", Digit, "", 0, 0},
		{"Digit", Digit, "1", 0, 0},
		{"Digit", Digit, "   1", 1, 1},
		{"One", one, "", 0, 0},
		{"One", one, " ", 0, 0},
		{"One", one, "x", 0, 0},
	} {
		s := source(t, x.steps, x.s, 0, len(x.s))
		if got := tell(s, x.do); got != wrong(api.Spent, x.at) {
			t.Errorf("%s of %q by %d steps: %+v", x.name, x.s, x.steps, got)
		}
		if got := tell(s, x.do); got != wrong(api.Spent, x.at) {
			t.Errorf("%s of %q once more: %+v", x.name, x.s, got)
		}
	}
}

// P11.1: One takes one reading.
func TestOneReading(t *testing.T) {
	for _, text := range []string{"", " ", "  ", "x", "#\n"} {
		s := source(t, math.MaxInt, text, 0, len(text))
		One(s)
		if s.Ledger().Steps() != 1 {
			t.Errorf("%d readings of %q", s.Ledger().Steps(), text)
		}
	}
}

// P11.1: calls one behind the other go on where the one ahead left the source.
func TestOneBehindTheOther(t *testing.T) {
	s := source(t, math.MaxInt, "3 4#\n255\n10 1", 0, 13)
	for i, x := range []struct {
		do   call
		want answer
	}{
		{Number, answer{v: 3, at: 0, behind: 1}},
		{Number, answer{v: 4, at: 2, behind: 3}},
		{over, answer{behind: 5}},
		{over, answer{behind: 5}},
		{Number, answer{v: 255, at: 5, behind: 8}},
		{one, answer{behind: 9}},
		{Digit, answer{v: 1, at: 9, behind: 10}},
		{Digit, answer{v: 0, at: 10, behind: 11}},
		{Digit, answer{v: 1, at: 12, behind: 13}},
		{over, answer{behind: 13}},
		{Number, wrong(api.Truncated, 13)},
	} {
		if got := tell(s, x.do); got != x.want {
			t.Errorf("call %d: %+v, not %+v", i, got, x.want)
		}
	}
}

// P11.2: blanks and remarks ahead of a number change only its place.
func TestAhead(t *testing.T) {
	pieces := []string{" ", "\t", "\n", "\v", "\f", "\r", "#\n", "#\r", "# 12 #\n", "#1\r\n", "##x\xff\x00\n", "#\v\n", "#" + strings.Repeat("9", 50) + "\r"}
	tails := []string{"0", "12", "12 34", "999999999", "1000000000", "0017#", "1\n2", "x", "-1", "", "7x"}
	ahead := []string{""}
	for range 3 {
		var next []string
		for _, a := range ahead {
			for _, p := range pieces {
				next = append(next, a+p)
			}
		}
		for _, a := range next {
			for _, tail := range tails {
				shifted(t, "Number", Number, a, tail)
				shifted(t, "Digit", Digit, a, tail)
			}
		}
		ahead = next
	}
}

// shifted holds what a call tells of a text against what it tells of it behind some blanks and remarks.
func shifted(t *testing.T, name string, do call, ahead, tail string) {
	t.Helper()
	want := tell(source(t, math.MaxInt, tail, 0, len(tail)), do)
	if want.f.Kind == api.NoFault {
		want.at += len(ahead)
		want.behind += len(ahead)
	} else {
		want.f.At += len(ahead)
	}
	expect(t, name, do, ahead+tail, 0, want)
}
