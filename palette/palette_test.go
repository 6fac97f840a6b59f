package palette

import (
	"math"
	"slices"
	"strings"
	"testing"

	"tintype/api"
	"tintype/ledger"
	"tintype/src"
)

// solidWhite is white with A 255.
var solidWhite = api.Color{R: 255, G: 255, B: 255, A: 255}

var kinds = []int{Two, Three, Four, Full}

// noKinds are numbers that no kind has.
var noKinds = []int{math.MinInt, -5, -4, -3, -2, -1, 0, 1, 6, 7, 8, 255, 1 << 32, 1<<32 + 3, math.MaxInt}

// outside are numbers that no palette has, of entries or of places.
var outside = []int{math.MinInt, math.MinInt + 1, -1 << 32, -65536, -2, -1, 1 << 20, 1 << 32, 1 << 61, 1 << 62, math.MaxInt - 1, math.MaxInt}

// random tells numbers below n, of a seed of its own.
func random() func(n int) int {
	seed := uint64(1)
	return func(n int) int {
		seed = seed*6364136223846793005 + 1442695040888963407
		return int(seed>>31) % n
	}
}

func newLedger(bytes, steps int) *ledger.Ledger {
	return ledger.New(api.Budget{MaxBytes: bytes, MaxWork: steps})
}

// made is a palette with room for so many entries.
func made(t *testing.T, l *ledger.Ledger, most int) *Palette {
	t.Helper()
	p, e := New(l, most)
	if p == nil || e != api.OK {
		t.Fatalf("no palette of %d: %d", most, e)
	}
	return p
}

// free is a palette of a ledger that lets all that is asked for here.
func free(t *testing.T, most int) *Palette {
	t.Helper()
	return made(t, newLedger(1<<40, math.MaxInt), most)
}

// source is one over all of s, that may do so many steps.
func source(t *testing.T, steps int, s string) *src.Src {
	t.Helper()
	x, e := src.New(newLedger(0, steps), s)
	if e != api.OK {
		t.Fatalf("no source of %q: %d", s, e)
	}
	return x
}

// mark is a colour of a number of its own.
func mark(n int) api.Color {
	return api.Color{R: byte(n), G: byte(n >> 8), B: byte(3 * n), A: byte(255 - n)}
}

// marks puts n marks behind the entries of p.
func marks(t *testing.T, p *Palette, n int) {
	t.Helper()
	for range n {
		if !p.Add(mark(p.Len())) {
			t.Fatalf("no entry %d", p.Len())
		}
	}
}

// expect holds a palette's entries against those of l.
func expect(t *testing.T, p *Palette, l []api.Color) {
	t.Helper()
	if p.Len() != len(l) {
		t.Fatalf("%d entries, not %d", p.Len(), len(l))
	}
	for i, c := range l {
		if got, ok := p.Of(i); got != c || !ok {
			t.Errorf("entry %d is %v, %t, not %v", i, got, ok, c)
		}
	}
	for _, i := range append([]int{len(l), len(l) + 1}, outside...) {
		if got, ok := p.Of(i); got != (api.Color{}) || ok {
			t.Errorf("of %d entries, %d is %v, %t", len(l), i, got, ok)
		}
	}
}

// expectMarks holds n entries against their marks.
func expectMarks(t *testing.T, p *Palette, n int) {
	t.Helper()
	var l []api.Color
	for i := range n {
		l = append(l, mark(i))
	}
	expect(t, p, l)
}

func expectCounts(t *testing.T, l *ledger.Ledger, bytes, peak, steps int) {
	t.Helper()
	if l.Bytes() != bytes || l.Peak() != peak || l.Steps() != steps {
		t.Errorf("%d bytes, peak %d, %d steps, not %d, %d, %d", l.Bytes(), l.Peak(), l.Steps(), bytes, peak, steps)
	}
}

// expectFreed asks a palette that was freed for all that there is.
func expectFreed(t *testing.T, p *Palette) {
	t.Helper()
	expect(t, p, nil)
	if c, ok := p.Of(0); c != (api.Color{}) || ok {
		t.Errorf("entry 0 of a freed one is %v, %t", c, ok)
	}
	if p.Add(solidWhite) || p.Add(api.Color{}) {
		t.Error("an entry is added to a freed one")
	}
	for _, n := range []int{0, 1, 2, math.MaxInt} {
		for _, kind := range kinds {
			x := source(t, 9, "abcdefghijkl")
			expectRead(t, p, x, n, kind, api.ErrFull)
			expectSource(t, x, 0, 0)
		}
	}
	if p.Free() {
		t.Error("freed once more")
	}
	expect(t, p, nil)
}

func expectRead(t *testing.T, p *Palette, x *src.Src, n, kind int, want api.Errno) {
	t.Helper()
	if e := p.Read(x, n, kind); e != want {
		t.Errorf("Read of %d of the kind %d is %d, not %d", n, kind, e, want)
	}
}

// expectSource holds a source's place and its steps against those that there must be.
func expectSource(t *testing.T, x *src.Src, at, steps int) {
	t.Helper()
	if x.At() != at || x.Ledger().Steps() != steps {
		t.Errorf("the source is at %d, behind %d steps, not at %d, behind %d", x.At(), x.Ledger().Steps(), at, steps)
	}
}

// P10.1: the examples of the chapter.
func TestExample(t *testing.T) {
	expectEntry(t, "\x01\x02\x03", Three, api.Color{R: 3, G: 2, B: 1, A: 255})
	expectEntry(t, "\xff\x7f", Two, solidWhite)
}

// P10.1: what New is asked for, and answers; four bytes are kept for each entry that there may be.
func TestNew(t *testing.T) {
	cases := []struct {
		name         string
		budget, most int
		want         api.Errno
		bytes        int
	}{
		{"one", 4, 1, api.OK, 4},
		{"one, with bytes left", 100, 1, api.OK, 4},
		{"two", 8, 2, api.OK, 8},
		{"a table", 1024, 256, api.OK, 1024},
		{"the most", 1 << 40, api.MaxMapped, api.OK, 4 * api.MaxMapped},
		{"the most, and no byte more", 4 * api.MaxMapped, api.MaxMapped, api.OK, 4 * api.MaxMapped},
		{"a byte less than one", 3, 1, api.ErrSpent, 0},
		{"a byte less than two", 7, 2, api.ErrSpent, 0},
		{"a byte less than the most", 4*api.MaxMapped - 1, api.MaxMapped, api.ErrSpent, 0},
		{"nothing", 0, 1, api.ErrSpent, 0},
		{"none", 100, 0, api.ErrRange, 0},
		{"one above the most", 1 << 40, api.MaxMapped + 1, api.ErrRange, 0},
		{"one above the most of nothing", 0, api.MaxMapped + 1, api.ErrRange, 0},
		{"none of nothing", 0, 0, api.ErrRange, 0},
	}
	for _, c := range cases {
		l := newLedger(c.budget, 0)
		p, e := New(l, c.most)
		if e != c.want || (p != nil) != (e == api.OK) {
			t.Errorf("%s: %v, %d", c.name, p, e)
		}
		expectCounts(t, l, c.bytes, c.bytes, 0)
		want := ledger.Refusal{}
		if e == api.ErrSpent {
			want = ledger.Refusal{Reason: ledger.Bytes, Asked: 4 * c.most}
		}
		if first, refused := l.First(); first != want || refused != (e == api.ErrSpent) {
			t.Errorf("%s: the first refusal is %+v, %t", c.name, first, refused)
		}
		if p != nil {
			expect(t, p, nil)
		}
	}
}

// P10.1: numbers of entries that there can't be, and no ledger, which is wrong ahead of them.
func TestNewOfNone(t *testing.T) {
	for _, most := range append([]int{0, api.MaxMapped + 1, 1 << 17, 1<<32 + 1}, outside...) {
		l := newLedger(math.MaxInt, 0)
		if p, e := New(l, most); p != nil || e != api.ErrRange {
			t.Errorf("New of %d is %v, %d", most, p, e)
		}
		if l.Broken() {
			t.Errorf("New of %d breaks the ledger", most)
		}
		expectCounts(t, l, 0, 0, 0)
		if p, e := New(nil, most); p != nil || e != api.ErrArg {
			t.Errorf("New of %d, without a ledger, is %v, %d", most, p, e)
		}
	}
	for _, most := range []int{1, 256, api.MaxMapped} {
		if p, e := New(nil, most); p != nil || e != api.ErrArg {
			t.Errorf("New of %d, without a ledger, is %v, %d", most, p, e)
		}
	}
}

// P10.1: of a ledger that is broken there is none, and a wrong number is wrong ahead of that.
func TestNewOfBroken(t *testing.T) {
	l := newLedger(1000, 0)
	l.Work(1)
	if p, e := New(l, 1); p != nil || e != api.ErrSpent {
		t.Error(p, e)
	}
	if p, e := New(l, 0); p != nil || e != api.ErrRange {
		t.Error(p, e)
	}
	expectCounts(t, l, 0, 0, 0)
}

// P10.1, P10.2: entries are added up to the most, and told as they were; the ledger isn't asked any more.
func TestAdd(t *testing.T) {
	for _, most := range []int{1, 2, 3, 16, 255, 256, 257, 1000} {
		l := newLedger(4*most, 0)
		p := made(t, l, most)
		l.Work(1)
		for n := range most {
			if p.Len() != n {
				t.Errorf("%d entries, not %d", p.Len(), n)
			}
			if c, ok := p.Of(n); c != (api.Color{}) || ok {
				t.Errorf("entry %d of %d is %v, %t", n, n, c, ok)
			}
			if !p.Add(mark(n)) {
				t.Errorf("no entry %d of %d", n, most)
			}
			if c, ok := p.Of(n); c != mark(n) || !ok {
				t.Errorf("entry %d is %v, %t", n, c, ok)
			}
		}
		for range 3 {
			if p.Add(solidWhite) {
				t.Errorf("more than %d entries", most)
			}
			expectMarks(t, p, most)
		}
		expectCounts(t, l, 4*most, 4*most, 0)
	}
}

// P10.2: as many entries as there may be at all.
func TestMost(t *testing.T) {
	p := free(t, api.MaxMapped)
	marks(t, p, api.MaxMapped)
	if p.Add(solidWhite) {
		t.Error("one more")
	}
	expectMarks(t, p, api.MaxMapped)
}

// P10.2: all numbers of each channel are told as they were, the clear ones, too.
func TestAnyColors(t *testing.T) {
	p := free(t, 4*256)
	var l []api.Color
	for k := range 256 {
		v := uint8(k)
		l = append(l, api.Color{R: v}, api.Color{G: v}, api.Color{B: v}, api.Color{A: v})
	}
	for _, c := range l {
		if !p.Add(c) {
			t.Fatal(c)
		}
	}
	expect(t, p, l)
}

// P10.1: what is freed has nothing any more, and its bytes are given back, once; those of others aren't.
func TestFree(t *testing.T) {
	for n := range 4 {
		l := newLedger(100, 0)
		l.Take(50)
		p, other := made(t, l, 3), made(t, l, 2)
		marks(t, other, 2)
		marks(t, p, n)
		expectCounts(t, l, 70, 70, 0)
		if !p.Free() {
			t.Error("not freed")
		}
		expectCounts(t, l, 58, 70, 0)
		expectFreed(t, p)
		expectCounts(t, l, 58, 70, 0)
		expectMarks(t, other, 2)
		again := made(t, l, 3)
		expect(t, again, nil)
		expectFreed(t, p)
		expectCounts(t, l, 70, 70, 0)
	}
}

// P10.1: a broken ledger gets its bytes back, too.
func TestFreeOfBroken(t *testing.T) {
	l := newLedger(100, 0)
	p := made(t, l, 3)
	marks(t, p, 2)
	l.Take(1000)
	if !p.Free() {
		t.Error("not freed")
	}
	expectCounts(t, l, 0, 12, 0)
	expectFreed(t, p)
}

// P10.1: palettes share nothing.
func TestTwoPalettes(t *testing.T) {
	l := newLedger(100, 0)
	one, other := made(t, l, 2), made(t, l, 2)
	one.Add(solidWhite)
	expect(t, other, nil)
	other.Add(mark(1))
	other.Add(mark(2))
	expect(t, one, []api.Color{solidWhite})
	expect(t, other, []api.Color{mark(1), mark(2)})
}

// P10.1: kinds have their numbers, and their entries so many bytes.
func TestSize(t *testing.T) {
	if Two != 2 || Three != 3 || Four != 4 || Full != 5 {
		t.Error(Two, Three, Four, Full)
	}
	for kind, want := range map[int]int{2: 2, 3: 3, 4: 4, 5: 4} {
		if n := Size(kind); n != want {
			t.Errorf("an entry of the kind %d has %d bytes, not %d", kind, n, want)
		}
	}
	for _, kind := range noKinds {
		if n := Size(kind); n != 0 {
			t.Errorf("an entry of the kind %d has %d bytes", kind, n)
		}
	}
}

// expectEntry asks for the colour of bytes, with others behind them, and without them.
func expectEntry(t *testing.T, s string, kind int, want api.Color) {
	t.Helper()
	for _, rest := range []string{"", "\x00", "\xff", "\xff\xff\xff\xff", strings.Repeat("abc", 100)} {
		if c, ok := Entry(s+rest, kind); c != want || !ok {
			t.Errorf("%x of the kind %d is %v, %t, not %v", s+rest, kind, c, ok, want)
		}
	}
}

// P10.1: entries by hand.
func TestEntryByHand(t *testing.T) {
	cases := []struct {
		s    string
		kind int
		want api.Color
	}{
		{"\x00\x00", Two, api.Color{A: 255}},
		{"\x00\x80", Two, api.Color{A: 255}},
		{"\xff\xff", Two, solidWhite},
		{"\x1f\x00", Two, api.Color{B: 255, A: 255}},
		{"\xe0\x03", Two, api.Color{G: 255, A: 255}},
		{"\x00\x7c", Two, api.Color{R: 255, A: 255}},
		{"\x01\x00", Two, api.Color{B: 8, A: 255}},
		{"\x20\x00", Two, api.Color{G: 8, A: 255}},
		{"\x00\x04", Two, api.Color{R: 8, A: 255}},
		{"\x10\x42", Two, api.Color{R: 132, G: 132, B: 132, A: 255}},
		{"\x00\x00\x00", Three, api.Color{A: 255}},
		{"\xff\xff\xff", Three, solidWhite},
		{"\x0a\x80\xfe", Three, api.Color{R: 254, G: 128, B: 10, A: 255}},
		{"\x0a\x80\xfe\x00", Four, api.Color{R: 254, G: 128, B: 10, A: 255}},
		{"\x0a\x80\xfe\x07", Four, api.Color{R: 254, G: 128, B: 10, A: 255}},
		{"\x0a\x80\xfe\xff", Four, api.Color{R: 254, G: 128, B: 10, A: 255}},
		{"\x0a\x80\xfe\x00", Full, api.Color{R: 254, G: 128, B: 10}},
		{"\x0a\x80\xfe\x07", Full, api.Color{R: 254, G: 128, B: 10, A: 7}},
		{"\x0a\x80\xfe\xff", Full, api.Color{R: 254, G: 128, B: 10, A: 255}},
		{"\x00\x00\x00\x00", Full, api.Color{}},
	}
	for _, c := range cases {
		expectEntry(t, c.s, c.kind, c.want)
	}
}

// P10.1: all entries of two bytes: five bits are nearest to so many of eight, the highest bit isn't looked at.
func TestTwo(t *testing.T) {
	eight := func(v int) uint8 { return uint8((2*v*255 + 31) / 62) }
	for word := range 1 << 16 {
		want := api.Color{R: eight(word / 1024 % 32), G: eight(word / 32 % 32), B: eight(word % 32), A: 255}
		if c, ok := Entry(string([]byte{byte(word % 256), byte(word / 256)}), Two); c != want || !ok {
			t.Errorf("%04x is %v, %t, not %v", word, c, ok, want)
		}
	}
}

// P10.1: all numbers of each byte, of the other kinds.
func TestEntryBytes(t *testing.T) {
	for k := range 256 {
		v := byte(k)
		b := string([]byte{v, v + 1, v + 2, v + 3})
		expectEntry(t, b[:3], Three, api.Color{R: v + 2, G: v + 1, B: v, A: 255})
		expectEntry(t, b, Four, api.Color{R: v + 2, G: v + 1, B: v, A: 255})
		expectEntry(t, b, Full, api.Color{R: v + 2, G: v + 1, B: v, A: v + 3})
	}
}

// P10.1: fewer bytes than an entry has, and kinds that there aren't.
func TestEntryOfNone(t *testing.T) {
	const all = "\xff\xfe\xfd\xfc\xfb"
	for kind, size := range map[int]int{Two: 2, Three: 3, Four: 4, Full: 4} {
		for n := range size {
			if c, ok := Entry(all[:n], kind); c != (api.Color{}) || ok {
				t.Errorf("%d bytes of the kind %d are %v, %t", n, kind, c, ok)
			}
		}
		if _, ok := Entry(all[:size], kind); !ok {
			t.Errorf("%d bytes of the kind %d aren't told", size, kind)
		}
	}
	for _, kind := range noKinds {
		for n := range len(all) + 1 {
			if c, ok := Entry(all[:n], kind); c != (api.Color{}) || ok {
				t.Errorf("%d bytes of the kind %d are %v, %t", n, kind, c, ok)
			}
		}
	}
}

// text is bytes that differ.
func text(n int) string {
	b := make([]byte, n)
	for i := range b {
		b[i] = byte(7*i + i/256 + 1)
	}
	return string(b)
}

// entries are those that bytes have, one behind the other.
func entries(t *testing.T, s string, n, kind int) []api.Color {
	t.Helper()
	var l []api.Color
	for i := range n {
		c, ok := Entry(s[i*Size(kind):], kind)
		if !ok {
			t.Fatalf("no entry %d of the kind %d", i, kind)
		}
		l = append(l, c)
	}
	return l
}

// P10.1: entries are read one behind the other, each by one reading; what stands behind them isn't.
func TestRead(t *testing.T) {
	for _, kind := range kinds {
		for n := range 40 {
			s := text(n*Size(kind) + 5)
			p, x := free(t, 40), source(t, n, s)
			expectRead(t, p, x, n, kind, api.OK)
			expect(t, p, entries(t, s, n, kind))
			expectSource(t, x, n*Size(kind), n)
			if x.Ledger().Broken() {
				t.Errorf("%d of the kind %d: more steps than entries", n, kind)
			}
		}
	}
}

// P10.1: entries are read behind those that are there, from the source's place on, of any kinds.
func TestReadBehind(t *testing.T) {
	s := text(3 + 2*2 + 1*3 + 3*4 + 2*4)
	p, x := free(t, 10), source(t, 100, s)
	x.Seek(3)
	p.Add(mark(0))
	want := []api.Color{mark(0)}
	at, steps := 3, 0
	for _, part := range []struct{ n, kind int }{{2, Two}, {1, Three}, {3, Four}, {0, Two}, {2, Full}} {
		expectRead(t, p, x, part.n, part.kind, api.OK)
		want = append(want, entries(t, s[at:], part.n, part.kind)...)
		at += part.n * Size(part.kind)
		steps += part.n
		expect(t, p, want)
		expectSource(t, x, at, steps)
	}
	if !p.Add(mark(9)) || p.Add(mark(10)) {
		t.Error("there isn't room for just one more")
	}
	expect(t, p, append(want, mark(9)))
}

// P10.1: as many entries as there may be, by several readings, and at once.
func TestReadMost(t *testing.T) {
	s := text(api.MaxMapped * 4)
	for _, kind := range kinds {
		p, x := free(t, api.MaxMapped), source(t, api.MaxMapped, s)
		expectRead(t, p, x, api.MaxMapped, kind, api.OK)
		if p.Len() != api.MaxMapped {
			t.Errorf("%d entries", p.Len())
		}
		for _, i := range []int{0, 1, 255, 256, 40000, api.MaxMapped - 1} {
			want, _ := Entry(s[i*Size(kind):], kind)
			if c, ok := p.Of(i); c != want || !ok {
				t.Errorf("entry %d is %v, %t, not %v", i, c, ok, want)
			}
		}
		expectSource(t, x, api.MaxMapped*Size(kind), api.MaxMapped)
		expectRead(t, p, x, 0, kind, api.OK)
		expectRead(t, p, x, 1, kind, api.ErrFull)
	}
}

// P10.1: no source, no such kind, numbers below 0: wrong ahead of all else; nothing is changed.
func TestReadOfWrong(t *testing.T) {
	p := free(t, 2)
	marks(t, p, 1)
	gone := free(t, 2)
	gone.Free()
	for _, n := range append([]int{0, 1, 2, 3}, outside...) {
		for _, kind := range append(append([]int{}, kinds...), noKinds...) {
			if n >= 0 && Size(kind) > 0 {
				continue
			}
			x := source(t, 9, "abcdefgh")
			expectRead(t, p, x, n, kind, api.ErrArg)
			expectRead(t, gone, x, n, kind, api.ErrArg)
			expectSource(t, x, 0, 0)
		}
		for _, kind := range append(append([]int{}, kinds...), noKinds...) {
			expectRead(t, p, nil, n, kind, api.ErrArg)
			expectRead(t, gone, nil, n, kind, api.ErrArg)
		}
	}
	expectMarks(t, p, 1)
}

// P10.1: more entries than there is room for: none is read, also where the bytes would end ahead.
func TestReadFull(t *testing.T) {
	for _, kind := range kinds {
		for had := range 4 {
			for _, s := range []string{"", "a", text(40)} {
				p, x := free(t, 3), source(t, 9, s)
				marks(t, p, had)
				for _, n := range []int{4 - had, 5 - had, 4, 5, 100, 1 << 32, 1 << 62, math.MaxInt - 3, math.MaxInt - 1, math.MaxInt} {
					expectRead(t, p, x, n, kind, api.ErrFull)
				}
				expectMarks(t, p, had)
				expectSource(t, x, 0, 0)
				expectRead(t, p, x, 0, kind, api.OK)
				expectMarks(t, p, had)
				expectSource(t, x, 0, 0)
			}
		}
	}
}

// P10.1: bytes that end too soon: the entries ahead of that are there, the source is behind them, and the reading that failed was a step.
func TestReadShort(t *testing.T) {
	for _, kind := range kinds {
		size := Size(kind)
		for bytes := range 5 * size {
			s := text(bytes)
			p, x := free(t, 6), source(t, 9, s)
			p.Add(mark(0))
			expectRead(t, p, x, 5, kind, api.ErrShort)
			n := bytes / size
			expect(t, p, append([]api.Color{mark(0)}, entries(t, s, n, kind)...))
			expectSource(t, x, n*size, n+1)
			if x.Ledger().Broken() {
				t.Error("a step was refused")
			}
		}
	}
}

// P10.1: steps that end too soon: likewise, but the step that is refused isn't done.
func TestReadWithoutSteps(t *testing.T) {
	for _, kind := range kinds {
		for steps := range 5 {
			s := text(50)
			p, x := free(t, 6), source(t, steps, s)
			p.Add(mark(0))
			expectRead(t, p, x, 5, kind, api.ErrShort)
			expect(t, p, append([]api.Color{mark(0)}, entries(t, s, steps, kind)...))
			expectSource(t, x, steps*Size(kind), steps)
			if !x.Ledger().Broken() {
				t.Error("no step was refused")
			}
			expectRead(t, p, x, 0, kind, api.OK)
			expectRead(t, p, x, 1, kind, api.ErrShort)
			if !p.Add(mark(1)) {
				t.Error("none is added behind what was refused")
			}
		}
	}
}

// P10.1: a window's bytes, and no more of the whole.
func TestReadOfWindow(t *testing.T) {
	for _, kind := range kinds {
		s := text(60)
		w, ok := source(t, 99, s).Window(11, 3*Size(kind)+1)
		if !ok {
			t.Fatal("no window")
		}
		p := free(t, 9)
		expectRead(t, p, w, 4, kind, api.ErrShort)
		expect(t, p, entries(t, s[11:], 3, kind))
		expectSource(t, w, 11+3*Size(kind), 4)
	}
}

// P10.1: one ledger for both: reading keeps no bytes more, and does just its steps.
func TestReadCounts(t *testing.T) {
	l := newLedger(16, 4)
	p := made(t, l, 4)
	x, _ := src.New(l, text(16))
	expectRead(t, p, x, 4, Full, api.OK)
	expectCounts(t, l, 16, 16, 4)
	if l.Broken() {
		t.Error("something was refused")
	}
	expect(t, p, entries(t, text(16), 4, Full))
}

func expectNearest(t *testing.T, l []api.Color, c api.Color, want int) {
	t.Helper()
	was := slices.Clone(l)
	if i, ok := Nearest(l, c); i != want || !ok {
		t.Errorf("of %v the nearest to %v is %d, %t, not %d", l, c, i, ok, want)
	}
	if !slices.Equal(l, was) {
		t.Errorf("%v became %v", was, l)
	}
}

// P10.1: the nearest colour, by hand.
func TestNearestByHand(t *testing.T) {
	black := api.Color{A: 255}
	clear := api.Color{}
	cases := []struct {
		l    []api.Color
		c    api.Color
		want int
	}{
		{[]api.Color{black}, solidWhite, 0},
		{[]api.Color{clear}, solidWhite, 0},
		{[]api.Color{black, solidWhite}, solidWhite, 1},
		{[]api.Color{solidWhite, black, solidWhite}, solidWhite, 0},
		{[]api.Color{black, solidWhite, solidWhite, solidWhite}, solidWhite, 1},
		{[]api.Color{black, clear}, clear, 1},                                             // A counts
		{[]api.Color{solidWhite, black, clear}, api.Color{A: 100}, 2},                     // 155 and 100 away
		{[]api.Color{{R: 10}, {G: 10}, {B: 10}, {A: 10}}, clear, 0},                       // the first of four
		{[]api.Color{{R: 10}, {G: 9}, {B: 9}, {A: 9}}, clear, 1},                          // the first of three
		{[]api.Color{{R: 10}, {G: 10}, {B: 9}, {A: 9}}, clear, 2},                         // the first of two
		{[]api.Color{{R: 10}, {G: 10}, {B: 10}, {A: 9}}, clear, 3},                        // one
		{[]api.Color{{R: 5}, {R: 3, G: 3, B: 3}}, clear, 0},                               // 25, 27: squares, not differences (5, 9)
		{[]api.Color{{R: 6}, {R: 3, G: 3, B: 3}}, clear, 1},                               // 36, 27: squares, not differences (6, 9)
		{[]api.Color{{R: 16}, {R: 1}}, clear, 1},                                          // 256, 1
		{[]api.Color{{R: 20}, {R: 8}}, api.Color{R: 14}, 0},                               // 36, 36: above and below
		{[]api.Color{{R: 255}, {R: 100}}, clear, 1},                                       // 65025, 10000
		{[]api.Color{{R: 0}, {R: 255}}, api.Color{R: 127}, 0},                             // 127, 128
		{[]api.Color{{R: 0}, {R: 255}}, api.Color{R: 128}, 1},                             // 128, 127
		{[]api.Color{solidWhite, {R: 254, G: 255, B: 255, A: 255}}, clear, 1},             // almost as far as can be
		{[]api.Color{{R: 255, G: 255, B: 255, A: 254}, solidWhite}, clear, 0},             // likewise
		{[]api.Color{clear, {R: 1}, {R: 255, G: 255, B: 255, A: 255}}, solidWhite, 2},     // the last one
		{[]api.Color{{R: 100, G: 50}, {R: 50, G: 100}}, api.Color{R: 60, G: 100}, 1},      // channels by their names
		{[]api.Color{{B: 100, A: 50}, {B: 50, A: 100}}, api.Color{B: 100, A: 60}, 0},      // likewise
		{[]api.Color{{R: 9, B: 1}, {G: 9, A: 1}, {R: 1, B: 9}}, api.Color{R: 2, B: 9}, 2}, // likewise
	}
	for _, c := range cases {
		expectNearest(t, c.l, c.c, c.want)
	}
	for _, l := range [][]api.Color{nil, {}} {
		for _, c := range []api.Color{clear, black, solidWhite} {
			if i, ok := Nearest(l, c); i != 0 || ok {
				t.Errorf("of none it is %d, %t", i, ok)
			}
		}
	}
}

// P10.1: any colours: none is less far, and those ahead are farther.
func TestNearest(t *testing.T) {
	next := random()
	for round := range 4000 {
		span := []int{2, 3, 16, 256}[round%4]
		some := func() api.Color {
			return api.Color{R: uint8(next(span)), G: uint8(next(span)), B: uint8(next(span)), A: uint8(next(span))}
		}
		l := make([]api.Color, 1+next(30))
		for i := range l {
			l[i] = some()
		}
		c := some()
		expectNearest(t, l, c, firstLeast(l, c))
	}
}

// firstLeast is the place of the first of the least distances.
func firstLeast(l []api.Color, c api.Color) int {
	var all []float64
	for _, k := range l {
		sum := 0.0
		for _, d := range []float64{float64(k.R) - float64(c.R), float64(k.G) - float64(c.G), float64(k.B) - float64(c.B), float64(k.A) - float64(c.A)} {
			sum += math.Pow(d, 2)
		}
		all = append(all, sum)
	}
	return slices.Index(all, slices.Min(all))
}

// P10.1, P10.2: any calls, held against a list of colours, a count of bytes and one of steps.
func TestAnyCalls(t *testing.T) {
	next := random()
	for range 300 {
		most := 1 + next(12)
		l := newLedger(4*most, 1<<30)
		p := made(t, l, most)
		s := text(next(80))
		x, _ := src.New(l, s)
		var want []api.Color
		open, at, steps := true, 0, 0
		for range 40 {
			switch next(8) {
			case 0, 1, 2:
				c := mark(next(1 << 16))
				ok := open && len(want) < most
				if p.Add(c) != ok {
					t.Fatalf("an entry behind %d of %d: not %t", len(want), most, ok)
				}
				if ok {
					want = append(want, c)
				}
			case 3, 4, 5, 6:
				n, kind := next(5)-1, 1+next(6)
				e := api.OK
				size := Size(kind)
				switch {
				case n < 0 || size == 0:
					e = api.ErrArg
				case !open || n+len(want) > most:
					e = api.ErrFull
				default:
					there := min(n, (len(s)-at)/size)
					want = append(want, entries(t, s[at:], there, kind)...)
					at += there * size
					steps += there
					if there < n {
						e = api.ErrShort
						steps++
					}
				}
				expectRead(t, p, x, n, kind, e)
			default:
				// Seldom, so that most of the calls find it open.
				if next(8) > 0 {
					continue
				}
				if p.Free() != open {
					t.Fatalf("freed: not %t", open)
				}
				open, want = false, nil
			}
			expect(t, p, want)
			expectSource(t, x, at, steps)
			bytes := 4 * most
			if !open {
				bytes = 0
			}
			expectCounts(t, l, bytes, 4*most, steps)
		}
	}
}
