package src

import (
	"encoding/binary"
	"math"
	"strings"
	"testing"

	"tintype/api"
	"tintype/ledger"
)

func newLedger(steps int) *ledger.Ledger { return ledger.New(api.Budget{MaxWork: steps}) }

// made is a source over all of s, that may do so many steps.
func made(t *testing.T, steps int, s string) *Src {
	t.Helper()
	x, e := New(newLedger(steps), s)
	if x == nil || e != api.OK {
		t.Fatalf("no source of %q: %d", s, e)
	}
	return x
}

// at is a source over all of s, that may do any steps, at a place.
func at(t *testing.T, s string, place int) *Src {
	t.Helper()
	x := made(t, math.MaxInt, s)
	if !x.Seek(place) {
		t.Fatalf("%q has no place %d", s, place)
	}
	return x
}

// window is one of x, that there must be.
func window(t *testing.T, x *Src, at, n int) *Src {
	t.Helper()
	w, ok := x.Window(at, n)
	if w == nil || !ok {
		t.Fatalf("no window of %d from %d on", n, at)
	}
	return w
}

// state is all that a source tells of itself.
type state struct{ from, at, to, left, steps int }

func look(x *Src) state { return state{x.From(), x.At(), x.To(), x.Left(), x.Ledger().Steps()} }

func expect(t *testing.T, x *Src, from, at, to, steps int) {
	t.Helper()
	want := state{from, at, to, to - at, steps}
	if got := look(x); got != want {
		t.Errorf("%+v, not %+v", got, want)
	}
}

func expectFault(t *testing.T, x *Src, kind, at int) {
	t.Helper()
	for _, format := range []int{api.Unknown, api.BMP, api.PNM, api.SUN, -1, 99} {
		want := api.Fault{Kind: kind, Format: format, At: at}
		if got := x.Fault(format); got != want {
			t.Errorf("%+v, not %+v", got, want)
		}
	}
}

// number is a reading of one: how many bytes it needs, how it is asked for, and what it is of its bytes.
type number struct {
	name  string
	bytes int
	ask   func(x *Src) (int, bool)
	of    func(b []byte) int
}

var numbers = []number{
	{"U8", 1, (*Src).U8, func(b []byte) int { return int(b[0]) }},
	{"Le16", 2, (*Src).Le16, func(b []byte) int { return int(binary.LittleEndian.Uint16(b)) }},
	{"Le32", 4, (*Src).Le32, func(b []byte) int { return int(binary.LittleEndian.Uint32(b)) }},
	{"Int32", 4, (*Src).Int32, func(b []byte) int { return int(int32(binary.LittleEndian.Uint32(b))) }},
	{"Be16", 2, (*Src).Be16, func(b []byte) int { return int(binary.BigEndian.Uint16(b)) }},
	{"Be32", 4, (*Src).Be32, func(b []byte) int { return int(binary.BigEndian.Uint32(b)) }},
}

// far are numbers beyond any text here.
var far = []int{math.MinInt, math.MinInt + 1, -1 << 32, -1 << 31, 1<<31 - 1, 1 << 32, math.MaxInt - 2, math.MaxInt - 1, math.MaxInt}

// near are those about the ends of a text of n bytes, and those far from them.
func near(n int) []int {
	l := append([]int{}, far...)
	for i := -3; i <= n+3; i++ {
		l = append(l, i)
	}
	return l
}

// P5.1: the example of the chapter.
func TestExample(t *testing.T) {
	x := made(t, 3, "\x01\x02\x03")
	if v, ok := x.Le16(); v != 513 || !ok {
		t.Error(v, ok)
	}
	if v, ok := x.Le16(); v != 0 || ok {
		t.Error(v, ok)
	}
	if v, ok := x.U8(); v != 3 || !ok {
		t.Error(v, ok)
	}
	expect(t, x, 0, 3, 3, 3)
}

// P5.1: a new source is at 0, goes over all, has the ledger that it was made with, and did nothing.
func TestNew(t *testing.T) {
	for _, s := range []string{"", "a", "\x00", "\xff\xfe", strings.Repeat("abc", 1000)} {
		l := newLedger(9)
		x, e := New(l, s)
		if x == nil || e != api.OK {
			t.Fatalf("%d bytes: %d", len(s), e)
		}
		expect(t, x, 0, 0, len(s), 0)
		if x.Ledger() != l || l.Broken() || l.Bytes() != 0 || l.Peak() != 0 {
			t.Errorf("%d bytes: another ledger, or one that was used", len(s))
		}
		if none, e := New(nil, s); none != nil || e != api.ErrArg {
			t.Errorf("%d bytes without a ledger: %v, %d", len(s), none, e)
		}
	}
}

// P5.1: of a ledger that is broken there are sources, but no readings.
func TestNewOfBroken(t *testing.T) {
	l := newLedger(9)
	l.Take(1)
	x, e := New(l, "abcdef")
	if x == nil || e != api.OK {
		t.Fatal(e)
	}
	expectSpent(t, x)
}

// expectSpent asks a source of a broken ledger for all that there is.
func expectSpent(t *testing.T, x *Src) {
	t.Helper()
	was := look(x)
	for _, n := range numbers {
		if v, ok := n.ask(x); v != 0 || ok {
			t.Errorf("%s is %d, %t", n.name, v, ok)
		}
	}
	for _, n := range near(4) {
		if s, ok := x.Take(n); s != "" || ok || x.Skip(n) {
			t.Errorf("%d bytes are read", n)
		}
	}
	if v, ok := x.Peek(); v != 0 || ok {
		t.Errorf("Peek is %d, %t", v, ok)
	}
	if look(x) != was {
		t.Errorf("%+v, not %+v", look(x), was)
	}
	expectFault(t, x, api.Spent, was.at)
	for place := was.from; place <= was.to; place++ {
		if !x.Seek(place) {
			t.Errorf("no place %d", place)
		}
		expectFault(t, x, api.Spent, place)
		w := window(t, x, place, was.to-place)
		expect(t, w, place, place, was.to, was.steps)
		expectFault(t, w, api.Spent, place)
		if v, ok := w.U8(); v != 0 || ok {
			t.Errorf("a window's byte is %d, %t", v, ok)
		}
	}
	x.Seek(was.at)
}

// P5.1: numbers of bytes about which something changes, at each place.
func TestNumbers(t *testing.T) {
	ends := []byte{0x00, 0x01, 0x7f, 0x80, 0xff}
	for _, a := range ends {
		for _, b := range ends {
			for _, c := range ends {
				for _, d := range ends {
					all := []byte{0x5a, a, b, c, d, 0xa5}
					for _, n := range numbers {
						for place := 0; place+n.bytes <= len(all); place++ {
							x := at(t, string(all), place)
							if v, ok := n.ask(x); v != n.of(all[place:]) || !ok {
								t.Errorf("%s of %x is %d, %t", n.name, all[place:], v, ok)
							}
							expect(t, x, 0, place+n.bytes, len(all), 1)
						}
					}
				}
			}
		}
	}
}

// P5.1: numbers by hand.
func TestNumbersByHand(t *testing.T) {
	cases := []struct {
		name  string
		bytes string
		ask   func(x *Src) (int, bool)
		want  int
	}{
		{"the least byte", "\x00", (*Src).U8, 0},
		{"the greatest byte", "\xff", (*Src).U8, 255},
		{"two, the lowest first", "\x12\x34", (*Src).Le16, 0x3412},
		{"two, the highest first", "\x12\x34", (*Src).Be16, 0x1234},
		{"the greatest two, the lowest first", "\xff\xff", (*Src).Le16, 65535},
		{"the greatest two, the highest first", "\xff\xff", (*Src).Be16, 65535},
		{"four, the lowest first", "\x12\x34\x56\x78", (*Src).Le32, 0x78563412},
		{"four, the highest first", "\x12\x34\x56\x78", (*Src).Be32, 0x12345678},
		{"the greatest four, the lowest first", "\xff\xff\xff\xff", (*Src).Le32, 1<<32 - 1},
		{"the greatest four, the highest first", "\xff\xff\xff\xff", (*Src).Be32, 1<<32 - 1},
		{"2^31 without a sign", "\x00\x00\x00\x80", (*Src).Le32, 1 << 31},
		{"2^31 with a sign", "\x00\x00\x00\x80", (*Src).Int32, -1 << 31},
		{"2^31 - 1 with a sign", "\xff\xff\xff\x7f", (*Src).Int32, 1<<31 - 1},
		{"2^32 - 1 with a sign", "\xff\xff\xff\xff", (*Src).Int32, -1},
		{"a number with a sign", "\x12\x34\x56\x78", (*Src).Int32, 0x78563412},
		{"one below 0", "\xfe\xff\xff\xff", (*Src).Int32, -2},
	}
	for _, c := range cases {
		if v, ok := c.ask(made(t, 1, c.bytes)); v != c.want || !ok {
			t.Errorf("%s: %d, %t", c.name, v, ok)
		}
	}
}

// P5.1: where fewer bytes are left than a number needs, it fails, the place stays, and a step was done.
func TestTooFew(t *testing.T) {
	const all = "abcdef"
	for _, n := range numbers {
		for left := range n.bytes {
			place := len(all) - left
			x := at(t, all, place)
			if v, ok := n.ask(x); v != 0 || ok {
				t.Errorf("%s of %d bytes is %d, %t", n.name, left, v, ok)
			}
			expect(t, x, 0, place, len(all), 1)
			expectFault(t, x, api.Truncated, len(all))
			if s, ok := x.Take(left); s != all[place:] || !ok {
				t.Errorf("behind %s: %q, %t", n.name, s, ok)
			}
		}
	}
	x := at(t, all, len(all))
	if v, ok := x.Peek(); v != 0 || ok {
		t.Errorf("Peek at the end is %d, %t", v, ok)
	}
	expect(t, x, 0, len(all), len(all), 1)
	expectFault(t, x, api.Truncated, len(all))
}

// P5.1: a text without bytes has one place, and nothing to read but no bytes.
func TestEmpty(t *testing.T) {
	x := made(t, math.MaxInt, "")
	for _, n := range numbers {
		if v, ok := n.ask(x); v != 0 || ok {
			t.Errorf("%s is %d, %t", n.name, v, ok)
		}
	}
	expectFault(t, x, api.Truncated, 0)
	if s, ok := x.Take(0); s != "" || !ok || !x.Skip(0) || !x.Seek(0) {
		t.Error("no bytes aren't there")
	}
	expect(t, window(t, x, 0, 0), 0, 0, 0, len(numbers)+2)
	if _, ok := x.Take(1); ok || x.Skip(1) {
		t.Error("a byte is there")
	}
}

// P5.1: Take, Skip and Peek at any place, of any count: each a step, also where it fails.
func TestStretches(t *testing.T) {
	const all = "abcde"
	for place := range len(all) + 1 {
		for _, n := range near(len(all)) {
			there := 0 <= n && n <= len(all)-place
			behind, want := place, ""
			if there {
				behind, want = place+n, all[place:place+n]
			}
			x := at(t, all, place)
			if s, ok := x.Take(n); s != want || ok != there {
				t.Errorf("Take(%d) at %d is %q, %t", n, place, s, ok)
			}
			expect(t, x, 0, behind, len(all), 1)
			x = at(t, all, place)
			if x.Skip(n) != there {
				t.Errorf("Skip(%d) at %d", n, place)
			}
			expect(t, x, 0, behind, len(all), 1)
		}
		if x := at(t, all, place); place < len(all) {
			for range 3 {
				if v, ok := x.Peek(); v != int(all[place]) || !ok {
					t.Errorf("Peek at %d is %d, %t", place, v, ok)
				}
			}
			expect(t, x, 0, place, len(all), 3)
		}
	}
}

// P5.1: a byte is any, and is told as it is.
func TestAnyByte(t *testing.T) {
	var bytes []byte
	for v := range 256 {
		bytes = append(bytes, byte(v))
	}
	x := made(t, math.MaxInt, string(bytes))
	for v := range 256 {
		if got, ok := x.Peek(); got != v || !ok {
			t.Errorf("Peek is %d, %t, not %d", got, ok, v)
		}
		if got, ok := x.U8(); got != v || !ok {
			t.Errorf("U8 is %d, %t, not %d", got, ok, v)
		}
	}
	expect(t, x, 0, 256, 256, 512)
	x.Seek(0)
	if s, ok := x.Take(256); s != string(bytes) || !ok {
		t.Errorf("%q, %t", s, ok)
	}
}

// P5.1: a step that the budget doesn't let: the reading fails, the place stays, nothing is counted, and all behind it fails.
func TestSteps(t *testing.T) {
	for steps := range 6 {
		x := made(t, steps, "abcdefgh")
		for i := range steps {
			if v, ok := x.U8(); v != int('a')+i || !ok {
				t.Errorf("%d steps: the byte %d is %d, %t", steps, i, v, ok)
			}
		}
		expectFault(t, x, api.Truncated, 8)
		if v, ok := x.U8(); v != 0 || ok {
			t.Errorf("%d steps: a byte more is %d, %t", steps, v, ok)
		}
		expect(t, x, 0, steps, 8, steps)
		if first, ok := x.Ledger().First(); first != (ledger.Refusal{Reason: ledger.Work, Asked: 1}) || !ok {
			t.Errorf("%d steps: the first refusal is %+v, %t", steps, first, ok)
		}
		expectSpent(t, x)
	}
}

// P5.1: each reading asks for just one step, whether bytes are there or not; what is no reading asks for none.
func TestStepOfEach(t *testing.T) {
	type call struct {
		name  string
		steps int
		do    func(x *Src) bool
	}
	calls := []call{
		{"Take", 1, func(x *Src) bool { _, ok := x.Take(2); return ok }},
		{"Take of none", 1, func(x *Src) bool { _, ok := x.Take(0); return ok }},
		{"Take below 0", 1, func(x *Src) bool { _, ok := x.Take(-1); return ok }},
		{"Peek", 1, func(x *Src) bool { _, ok := x.Peek(); return ok }},
		{"Skip", 1, func(x *Src) bool { return x.Skip(2) }},
		{"Skip of none", 1, func(x *Src) bool { return x.Skip(0) }},
		{"Skip below 0", 1, func(x *Src) bool { return x.Skip(-1) }},
		{"Seek", 0, func(x *Src) bool { return x.Seek(1) }},
		{"Seek beyond", 0, func(x *Src) bool { return x.Seek(9) }},
		{"Window", 0, func(x *Src) bool { _, ok := x.Window(0, 1); return ok }},
		{"Window beyond", 0, func(x *Src) bool { _, ok := x.Window(0, 9); return ok }},
		{"Fault", 0, func(x *Src) bool { x.Fault(1); return true }},
	}
	for _, n := range numbers {
		calls = append(calls, call{n.name, 1, func(x *Src) bool { _, ok := n.ask(x); return ok }})
	}
	for _, c := range calls {
		for _, s := range []string{"", "a", "abcd"} {
			x := made(t, 1, s)
			c.do(x)
			if x.Ledger().Steps() != c.steps || x.Ledger().Broken() {
				t.Errorf("%s over %q: %d steps, broken %t", c.name, s, x.Ledger().Steps(), x.Ledger().Broken())
			}
			spent := made(t, 0, s)
			if ok := c.do(spent); c.steps == 1 && ok || spent.Ledger().Broken() != (c.steps == 1) {
				t.Errorf("%s over %q without a step: %t", c.name, s, ok)
			}
		}
	}
}

// P5.1, P5.2: Seek goes to any place from from to to, and to no other.
func TestSeek(t *testing.T) {
	const all = "abcdefgh"
	whole := made(t, math.MaxInt, all)
	for _, x := range []*Src{whole, window(t, whole, 2, 4), window(t, whole, 3, 0), window(t, whole, 8, 0)} {
		from, to := x.From(), x.To()
		for _, place := range near(len(all)) {
			x.Seek(from)
			there, want := from <= place && place <= to, from
			if there {
				want = place
			}
			if x.Seek(place) != there {
				t.Errorf("Seek(%d) from %d to %d", place, from, to)
			}
			expect(t, x, from, want, to, 0)
		}
	}
}

// P5.1, P5.2: a window over any bytes of the whole, and of a window.
func TestWindow(t *testing.T) {
	const all = "abcdefgh"
	whole := made(t, math.MaxInt, all)
	for _, x := range []*Src{whole, window(t, whole, 2, 4), window(t, whole, 3, 0)} {
		from, to := x.From(), x.To()
		for _, place := range near(len(all)) {
			for _, n := range near(len(all)) {
				there := from <= place && place <= to && 0 <= n && n <= to-place
				w, ok := x.Window(place, n)
				if ok != there || (w != nil) != there {
					t.Fatalf("Window(%d, %d) from %d to %d is %v, %t", place, n, from, to, w, ok)
				}
				if there {
					expect(t, w, place, place, place+n, 0)
				}
				expect(t, x, from, from, to, 0)
			}
		}
	}
}

// P5.1, P5.2: a window reads what the whole has there, with the whole's ledger, and neither moves the other.
func TestWindowReads(t *testing.T) {
	const all = "\x81\x12\xf3\x04\x95\x26\xb7\x08\xff"
	for from := range len(all) + 1 {
		for to := from; to <= len(all); to++ {
			for _, n := range numbers {
				whole := at(t, all, 1)
				w := window(t, whole, from, to-from)
				if w.Ledger() != whole.Ledger() {
					t.Fatal("another ledger")
				}
				steps := 0
				for place := from; place <= to; place++ {
					there := n.bytes <= to-place
					w.Seek(place)
					whole.Seek(place)
					v, ok := n.ask(w)
					steps++
					if ok != there || !there && v != 0 {
						t.Errorf("%s at %d, up to %d: %d, %t", n.name, place, to, v, ok)
					}
					if !there {
						expect(t, w, from, place, to, steps)
						expectFault(t, w, api.Truncated, to)
						continue
					}
					expect(t, w, from, place+n.bytes, to, steps)
					expect(t, whole, 0, place, len(all), steps)
					if same, ok := n.ask(whole); same != v || !ok {
						t.Errorf("%s at %d is %d in a window, and %d in the whole", n.name, place, v, same)
					}
					steps++
					expect(t, w, from, place+n.bytes, to, steps)
				}
			}
		}
	}
}

// P5.1: what a window's readings used up the whole hasn't, and the other way round.
func TestWindowShares(t *testing.T) {
	x := made(t, 3, "abcd")
	w := window(t, x, 2, 2)
	if v, ok := w.U8(); v != 'c' || !ok {
		t.Error(v, ok)
	}
	if s, ok := x.Take(3); s != "abc" || !ok || !w.Skip(1) {
		t.Error(s, ok)
	}
	if v, ok := x.U8(); v != 0 || ok {
		t.Error(v, ok)
	}
	expect(t, x, 0, 3, 4, 3)
	expect(t, w, 2, 4, 4, 3)
	expectFault(t, x, api.Spent, 3)
	expectFault(t, w, api.Spent, 4)
}

// P5.1: a fault tells what is so when it is asked for: of any refusal of the ledger Spent, at the place.
func TestFault(t *testing.T) {
	x := made(t, 9, "abcd")
	w := window(t, x, 1, 2)
	w.Skip(1)
	expectFault(t, x, api.Truncated, 4)
	expectFault(t, w, api.Truncated, 3)
	expect(t, x, 0, 0, 4, 1)
	x.Ledger().Sides(1, 1)
	expectFault(t, x, api.Spent, 0)
	expectFault(t, w, api.Spent, 2)
	x.Seek(4)
	expectFault(t, x, api.Spent, 4)
}

// model is a source as the chapter has it.
type model struct {
	x            *Src
	at, from, to int
}

// game is a text with sources, the steps that are let, and those that were done.
type game struct {
	text        string
	limit, done int
	broken      bool
}

// step is whether a reading's step is let.
func (g *game) step() bool {
	g.broken = g.broken || g.done == g.limit
	if !g.broken {
		g.done++
	}
	return !g.broken
}

// reading is what n bytes from a model's place on are, which is behind them then.
func (g *game) reading(m *model, n int) (string, bool) {
	if !g.step() || n < 0 || n > m.to-m.at {
		return "", false
	}
	m.at += n
	return g.text[m.at-n : m.at], true
}

// move does one thing to a source and its model, and tells whether both told the same; next tells numbers below n.
func (g *game) move(m *model, next func(n int) int) bool {
	switch k := next(10); k {
	case 0:
		n := next(6) - 1
		want, wantOK := g.reading(m, n)
		got, ok := m.x.Take(n)
		return got == want && ok == wantOK
	case 1:
		n := next(6) - 1
		_, want := g.reading(m, n)
		return m.x.Skip(n) == want
	case 2:
		want, wantOK := g.reading(m, 1)
		got, ok := m.x.Peek()
		m.at -= len(want)
		return ok == wantOK && (!ok && got == 0 || ok && got == int(want[0]))
	case 3:
		place := next(len(g.text)+4) - 2
		want := m.from <= place && place <= m.to
		if want {
			m.at = place
		}
		return m.x.Seek(place) == want
	default:
		n := numbers[k-4]
		bytes, wantOK := g.reading(m, n.bytes)
		got, ok := n.ask(m.x)
		return ok == wantOK && (!ok && got == 0 || ok && got == n.of([]byte(bytes)))
	}
}

// same is whether a source tells of itself what its model does.
func (g *game) same(m *model) bool {
	f := api.Fault{Kind: api.Truncated, Format: api.TGA, At: m.to}
	if g.broken {
		f = api.Fault{Kind: api.Spent, Format: api.TGA, At: m.at}
	}
	return look(m.x) == state{m.from, m.at, m.to, m.to - m.at, g.done} && m.x.Fault(api.TGA) == f && m.from <= m.x.At() && m.x.At() <= m.to
}

// P5.1, P5.2: behind any calls sources and windows tell what their models do, and none leaves what it goes over.
func TestAnyCalls(t *testing.T) {
	seed := uint32(1)
	next := func(n int) int {
		seed = seed*1664525 + 1013904223
		return int(seed>>8) % n
	}
	for round := range 500 {
		bytes := make([]byte, next(24))
		for i := range bytes {
			bytes[i] = byte(next(256))
		}
		g := &game{text: string(bytes), limit: next(120)}
		all := []*model{{x: made(t, g.limit, g.text), to: len(g.text)}}
		for turn := range 100 {
			m := all[next(len(all))]
			if next(12) == 0 {
				place, n := next(len(g.text)+4)-2, next(8)-1
				want := m.from <= place && place <= m.to && 0 <= n && place+n <= m.to
				w, ok := m.x.Window(place, n)
				if ok != want || (w != nil) != want {
					t.Fatalf("round %d, turn %d: Window(%d, %d) of %+v", round, turn, place, n, m)
				}
				if want {
					all = append(all, &model{w, place, place, place + n})
				}
			} else if !g.move(m, next) {
				t.Fatalf("round %d, turn %d: unlike the model %+v", round, turn, m)
			}
			for _, m := range all {
				if !g.same(m) {
					t.Fatalf("round %d, turn %d: %+v, not %+v", round, turn, look(m.x), m)
				}
			}
		}
	}
}
