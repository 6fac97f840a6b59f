package buf

import (
	"math"
	"strings"
	"testing"

	"tintype/api"
	"tintype/ledger"
)

func newLedger(bytes int) *ledger.Ledger { return ledger.New(api.Budget{MaxBytes: bytes}) }

// made is an open buffer with the bytes of s.
func made(t *testing.T, l *ledger.Ledger, s string) *Buf {
	t.Helper()
	b, e := Make(l, len(s))
	if b == nil || e != api.OK || !b.Put(0, s) {
		t.Fatalf("no buffer of %q: %d", s, e)
	}
	return b
}

// expect holds an open buffer's bytes, by all calls that tell them, against those of s.
func expect(t *testing.T, b *Buf, s string) {
	t.Helper()
	if b.Len() != len(s) {
		t.Fatalf("%d bytes, not %d", b.Len(), len(s))
	}
	if got, ok := b.Get(0, len(s)); got != s || !ok {
		t.Errorf("%q %t, not %q", got, ok, s)
	}
	for i := range len(s) {
		if v, ok := b.At(i); v != s[i] || !ok {
			t.Errorf("At(%d) = %d, %t, not %d", i, v, ok, s[i])
		}
	}
}

// expectClosed asks a buffer that isn't open for all that there is.
func expectClosed(t *testing.T, b *Buf) {
	t.Helper()
	if b.Len() != 0 {
		t.Errorf("%d bytes of a closed one", b.Len())
	}
	for i := -1; i < 5; i++ {
		if v, ok := b.At(i); v != 0 || ok || b.Set(i, 1) {
			t.Errorf("a byte of a closed one at %d", i)
		}
		for _, s := range []string{"", "a", "abc"} {
			if b.Put(i, s) || b.Fill(i, len(s), 7) {
				t.Errorf("%d bytes are put into a closed one at %d", len(s), i)
			}
			if got, ok := b.Get(i, len(s)); got != "" || ok {
				t.Errorf("%d bytes of a closed one at %d", len(s), i)
			}
		}
	}
	if out, ok := b.Out(); len(out) != 0 || ok || b.Free() {
		t.Error("a closed one is let go")
	}
}

func expectBytes(t *testing.T, l *ledger.Ledger, bytes, peak int) {
	t.Helper()
	if l.Bytes() != bytes || l.Peak() != peak || l.Steps() != 0 {
		t.Errorf("%d bytes, peak %d, %d steps, not %d, %d, 0", l.Bytes(), l.Peak(), l.Steps(), bytes, peak)
	}
}

// P4.1, P4.2: the example of the chapter.
func TestExample(t *testing.T) {
	l := newLedger(10)
	b, e := Make(l, 3)
	if b == nil || e != api.OK {
		t.Fatal(e)
	}
	expectBytes(t, l, 3, 3)
	expect(t, b, "\x00\x00\x00")
	if !b.Free() {
		t.Error("not freed")
	}
	expectBytes(t, l, 0, 3)
	if b.Free() {
		t.Error("freed twice")
	}
	expectBytes(t, l, 0, 3)
	expectClosed(t, b)
}

// P4.1: what Make is asked for, and answers.
func TestMake(t *testing.T) {
	cases := []struct {
		name         string
		budget, n    int
		want         api.Errno
		bytes, asked int
	}{
		{"nothing", 10, 0, api.OK, 0, 0},
		{"nothing of nothing", 0, 0, api.OK, 0, 0},
		{"nothing of less", -1, 0, api.OK, 0, 0},
		{"one", 10, 1, api.OK, 1, 0},
		{"all", 10, 10, api.OK, 10, 0},
		{"more", 10, 11, api.ErrSpent, 0, 11},
		{"one of nothing", 0, 1, api.ErrSpent, 0, 1},
		{"the most", 10, math.MaxInt, api.ErrSpent, 0, math.MaxInt},
		{"below 0", 10, -1, api.ErrArg, 0, 0},
		{"far below 0", 10, math.MinInt, api.ErrArg, 0, 0},
	}
	for _, c := range cases {
		l := newLedger(c.budget)
		b, e := Make(l, c.n)
		if e != c.want || (b != nil) != (e == api.OK) {
			t.Errorf("%s: %v, %d", c.name, b, e)
		}
		expectBytes(t, l, c.bytes, c.bytes)
		want := ledger.Refusal{}
		if e == api.ErrSpent {
			want = ledger.Refusal{Reason: ledger.Bytes, Asked: c.asked}
		}
		if first, refused := l.First(); first != want || refused != (e == api.ErrSpent) {
			t.Errorf("%s: the first refusal is %+v, %t", c.name, first, refused)
		}
		if b != nil {
			expect(t, b, strings.Repeat("\x00", c.n))
		}
	}
}

// P4.1: without a ledger, of any number.
func TestMakeWithoutLedger(t *testing.T) {
	for _, n := range []int{math.MinInt, -1, 0, 1, math.MaxInt} {
		if b, e := Make(nil, n); b != nil || e != api.ErrArg {
			t.Errorf("Make(nil, %d) = %v, %d", n, b, e)
		}
	}
}

// P4.1: of a ledger that is broken nothing is made, and a number below 0 is wrong ahead of that.
func TestMakeOfBroken(t *testing.T) {
	l := newLedger(10)
	b := made(t, l, "abc")
	if none, e := Make(l, 8); none != nil || e != api.ErrSpent {
		t.Error(none, e)
	}
	if none, e := Make(l, 0); none != nil || e != api.ErrSpent {
		t.Error(none, e)
	}
	if none, e := Make(l, -1); none != nil || e != api.ErrArg {
		t.Error(none, e)
	}
	if first, _ := l.First(); first != (ledger.Refusal{Reason: ledger.Bytes, Asked: 8}) {
		t.Error(first)
	}
	expectBytes(t, l, 3, 3)
	if !b.Set(0, 'x') {
		t.Error("what was made ahead is changed")
	}
	expect(t, b, "xbc")
	if !b.Free() {
		t.Error("what was made ahead is freed")
	}
	expectBytes(t, l, 0, 3)
}

// P4.1: more bytes than a machine has don't end the program, though a budget lets them.
func TestMakeTooMany(t *testing.T) {
	for _, n := range []int{1 << 31, 1 << 40, 1 << 48, 1 << 62, math.MaxInt} {
		l := newLedger(math.MaxInt)
		if b, e := Make(l, n); b != nil || e != api.ErrSpent || l.Bytes() != 0 {
			t.Errorf("Make(%d) = %v, %d, and %d bytes are kept", n, b, e, l.Bytes())
		}
	}
}

// places are those about the ends of a buffer of four bytes, and far from them.
var places = []int{math.MinInt, math.MinInt + 1, -5, -4, -1, 0, 1, 2, 3, 4, 5, 8, 1 << 32, math.MaxInt - 4, math.MaxInt - 1, math.MaxInt}

// P4.1: a byte at any place.
func TestAtAndSet(t *testing.T) {
	for _, i := range places {
		b := made(t, newLedger(4), "abcd")
		there, want := 0 <= i && i < 4, "abcd"
		if v, ok := b.At(i); ok != there || !ok && v != 0 || ok && v != "abcd"[i] {
			t.Errorf("At(%d) = %d, %t", i, v, ok)
		}
		if there {
			want = want[:i] + "\xff" + want[i+1:]
		}
		if b.Set(i, 255) != there {
			t.Errorf("Set(%d)", i)
		}
		expect(t, b, want)
	}
}

// P4.1: stretches from any place on, of any length.
func TestStretches(t *testing.T) {
	const all = "abcd"
	for _, i := range places {
		for _, n := range places {
			b := made(t, newLedger(4), all)
			there, want := 0 <= i && i <= 4 && 0 <= n && n <= 4-i, all
			part, filled := "", ""
			if there {
				part, filled = all[i:i+n], strings.Repeat("\x80", n)
				want = all[:i] + filled + all[i+n:]
			}
			if got, ok := b.Get(i, n); got != part || ok != there {
				t.Errorf("Get(%d, %d) = %q, %t", i, n, got, ok)
			}
			if b.Fill(i, n, 0x80) != there {
				t.Errorf("Fill(%d, %d)", i, n)
			}
			expect(t, b, want)
		}
		for _, s := range []string{"", "w", "wx", "wxy", "wxyz", "vwxyz", strings.Repeat("v", 100)} {
			b := made(t, newLedger(4), all)
			there, want := 0 <= i && i <= 4 && len(s) <= 4-i, all
			if there {
				want = all[:i] + s + all[i+len(s):]
			}
			if b.Put(i, s) != there {
				t.Errorf("Put(%d, %q)", i, s)
			}
			expect(t, b, want)
		}
	}
}

// P4.1: an open buffer of no bytes has the place 0 for no bytes, and no other.
func TestEmpty(t *testing.T) {
	l := newLedger(0)
	b := made(t, l, "")
	for _, i := range places {
		if v, ok := b.At(i); v != 0 || ok || b.Set(i, 1) {
			t.Errorf("a byte at %d", i)
		}
		if b.Put(i, "") != (i == 0) || b.Fill(i, 0, 1) != (i == 0) || b.Put(i, "a") || b.Fill(i, 1, 1) || b.Fill(i, -1, 1) {
			t.Errorf("bytes at %d", i)
		}
		if s, ok := b.Get(i, 0); s != "" || ok != (i == 0) {
			t.Errorf("no bytes at %d", i)
		}
	}
	expect(t, b, "")
	if out, ok := b.Out(); len(out) != 0 || !ok {
		t.Error("no bytes are handed over")
	}
	expectClosed(t, b)
	c := made(t, l, "")
	if !c.Free() {
		t.Error("no bytes are given back")
	}
	expectClosed(t, c)
	expectBytes(t, l, 0, 0)
}

// P4.1: a byte is any, and its text has just it.
func TestAnyByte(t *testing.T) {
	b := made(t, newLedger(256), strings.Repeat("-", 256))
	var want []byte
	for v := range 256 {
		want = append(want, byte(v))
		if !b.Set(v, byte(v)) {
			t.Errorf("Set(%d)", v)
		}
	}
	expect(t, b, string(want))
	for v := range 256 {
		if !b.Fill(0, 256, byte(v)) {
			t.Errorf("filled with %d", v)
		}
		expect(t, b, strings.Repeat(string([]byte{byte(v)}), 256))
	}
}

// P4.1, P4.2: bytes that are handed over count on, and belong to who has them.
func TestOut(t *testing.T) {
	l := newLedger(10)
	b := made(t, l, "abc")
	told, _ := b.Get(0, 3)
	out, ok := b.Out()
	if string(out) != "abc" || !ok {
		t.Fatalf("%q, %t", out, ok)
	}
	expectClosed(t, b)
	expectBytes(t, l, 3, 3)
	if string(out) != "abc" {
		t.Errorf("a closed buffer changed what it handed over: %q", out)
	}
	for i := range out {
		out[i] = 'x'
	}
	out = append(out, "yz"...)
	if told != "abc" || string(out) != "xxxyz" {
		t.Errorf("a text that was told is now %q, beside %q", told, out)
	}
	expectClosed(t, b)
	if !l.Give(3) {
		t.Error("what was handed over doesn't count")
	}
}

// P4.1: what was told stays, whatever the buffer becomes.
func TestToldStays(t *testing.T) {
	b := made(t, newLedger(10), "abcd")
	told, _ := b.Get(1, 2)
	b.Fill(0, 4, 'x')
	b.Free()
	if told != "bc" {
		t.Errorf("it is now %q", told)
	}
}

// P4.1, P4.2: two buffers of one ledger share the count, but no bytes.
func TestTwoBuffers(t *testing.T) {
	l := newLedger(10)
	one, other := made(t, l, "abcd"), made(t, l, "wxyz")
	expectBytes(t, l, 8, 8)
	one.Fill(0, 4, '-')
	expect(t, other, "wxyz")
	if !one.Free() {
		t.Error("not freed")
	}
	expectBytes(t, l, 4, 8)
	expect(t, other, "wxyz")
	third := made(t, l, "123456")
	expectBytes(t, l, 10, 10)
	if out, ok := other.Out(); string(out) != "wxyz" || !ok || other.Free() {
		t.Error("what is handed over isn't given back")
	}
	expectBytes(t, l, 10, 10)
	third.Free()
	expectBytes(t, l, 4, 10)
}

// model is a buffer as the chapter has it.
type model struct {
	b     *Buf
	bytes []byte
	open  bool
}

func (m *model) has(i, n int) bool { return m.open && i >= 0 && n >= 0 && i+n <= len(m.bytes) }

// move does one thing to a buffer and its model, and tells how many bytes of the ledger were given back, and whether both told the same.
func (m *model) move(next func(n int) int) (int, bool) {
	i, n, v := next(8)-1, next(6)-1, byte(next(256))
	switch next(16) {
	case 0:
		want, given := m.open, len(m.bytes)
		m.open = false
		if m.b.Free() != want {
			return 0, false
		}
		if !want {
			given = 0
		}
		return given, true
	case 1:
		out, ok := m.b.Out()
		want := m.open
		m.open = false
		return 0, ok == want && (!ok && out == nil || ok && string(out) == string(m.bytes))
	case 2, 3, 4, 5:
		want := m.has(i, 1)
		if want {
			m.bytes[i] = v
		}
		return 0, m.b.Set(i, v) == want
	case 6, 7, 8:
		want := m.has(i, n)
		for k := i; want && k < i+n; k++ {
			m.bytes[k] = v
		}
		return 0, m.b.Fill(i, n, v) == want
	case 9, 10, 11:
		s := strings.Repeat(string([]byte{v, v + 1}), max(n, 0))
		want := m.has(i, len(s))
		for k := 0; want && k < len(s); k++ {
			m.bytes[i+k] = s[k]
		}
		return 0, m.b.Put(i, s) == want
	}
	want, part := m.has(i, n), ""
	if want {
		part = string(m.bytes[i : i+n])
	}
	got, ok := m.b.Get(i, n)
	return 0, got == part && ok == want
}

// P4.1, P4.2: behind any calls buffers tell what their models do, and the ledger's bytes are those of all that weren't freed.
func TestAnyCalls(t *testing.T) {
	seed := uint32(1)
	next := func(n int) int {
		seed = seed*1664525 + 1013904223
		return int(seed>>8) % n
	}
	for game := range 500 {
		budget, bytes, peak := next(30), 0, 0
		l := newLedger(budget)
		var all []*model
		for move := range 60 {
			if len(all) == 0 || next(8) == 0 {
				n := next(8)
				b, e := Make(l, n)
				if e == api.OK {
					all = append(all, &model{b: b, bytes: make([]byte, n), open: true})
					bytes += n
					peak = max(peak, bytes)
				} else if !l.Broken() || e != api.ErrSpent || b != nil {
					t.Fatalf("game %d, move %d: %d", game, move, e)
				}
			}
			if len(all) > 0 {
				given, same := all[next(len(all))].move(next)
				if !same {
					t.Fatalf("game %d, move %d: unlike the model", game, move)
				}
				bytes -= given
			}
			if l.Bytes() != bytes || l.Peak() != peak || bytes > budget {
				t.Fatalf("game %d, move %d: %d bytes, peak %d, not %d, %d", game, move, l.Bytes(), l.Peak(), bytes, peak)
			}
		}
		for _, m := range all {
			if m.open {
				expect(t, m.b, string(m.bytes))
			} else {
				expectClosed(t, m.b)
			}
		}
	}
}
