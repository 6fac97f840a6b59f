package icodir

import (
	"encoding/binary"
	"math"
	"slices"
	"strings"
	"testing"

	"tintype/api"
	"tintype/ledger"
	"tintype/src"
)

// random tells numbers below n, of a seed of its own.
func random(seed uint64) func(n int) int {
	return func(n int) int {
		seed = seed*6364136223846793005 + 1442695040888963407
		return int(seed>>33) % n
	}
}

// source goes over all of s, and may do so many steps.
func source(t *testing.T, steps int, s string) *src.Src {
	t.Helper()
	x, e := src.New(ledger.New(api.Budget{MaxWork: steps}), s)
	if e != api.OK {
		t.Fatalf("no source of %q: %d", s, e)
	}
	return x
}

func fault(kind, at int) api.Fault {
	return api.Fault{Kind: kind, Format: api.ICO, At: at}
}

// head is the six bytes of a directory.
func head(kind, n int) string {
	b := binary.LittleEndian.AppendUint16([]byte{0, 0}, uint16(kind))
	return string(binary.LittleEndian.AppendUint16(b, uint16(n)))
}

// entryBytes is an entry's; what isn't looked at is any.
func entryBytes(e Entry) string {
	b := []byte{byte(e.Width), byte(e.Height), 0x5a, 0xa5}
	b = binary.LittleEndian.AppendUint16(b, uint16(e.A))
	b = binary.LittleEndian.AppendUint16(b, uint16(e.B))
	b = binary.LittleEndian.AppendUint32(b, uint32(e.Size))
	return string(binary.LittleEndian.AppendUint32(b, uint32(e.Place)))
}

// directory is one of such entries.
func directory(kind int, l ...Entry) string {
	s := head(kind, len(l))
	for _, e := range l {
		s += entryBytes(e)
	}
	return s
}

// with is a text whose byte at a place is another.
func with(s string, at, v int) string {
	b := []byte(s)
	b[at] = byte(v)
	return string(b)
}

// meaning is what the chapter's words say of the bytes of a source: a directory, or what is wrong; and how many bytes and readings it took.
type meaning struct {
	dir             Dir
	fault           api.Fault
	bytes, readings int
}

// meant reads the directory from a place of a text on, that ends at another, by the chapter's words, thing by thing.
func meant(s string, from, to int) (m meaning) {
	at := func(i int) int { return int(s[from+i]) }
	le16 := func(i int) int { return at(i) + 256*at(i+1) }
	le32 := func(i int) int { return le16(i) + 65536*le16(i+2) }
	side := func(i int) int {
		if at(i) == 0 {
			return 256
		}
		return at(i)
	}
	fail := func(kind, at int) meaning {
		return meaning{fault: fault(kind, at), readings: m.readings}
	}
	m.readings++
	switch {
	case to-from < 6:
		return fail(api.Truncated, to)
	case at(0) != 0 || at(1) != 0:
		return fail(api.Malformed, from)
	case le16(2) != 1 && le16(2) != 2:
		return fail(api.Malformed, from+2)
	case le16(4) == 0:
		return fail(api.Malformed, from+4)
	}
	cursor, n := le16(2) == 2, le16(4)
	var all []Entry
	for i := range n {
		k := 6 + 16*i
		m.readings++
		if to-from < k+16 {
			return fail(api.Truncated, to)
		}
		size, place := le32(k+8), le32(k+12)
		if place < 6+16*n || from+place+size > to {
			return fail(api.Malformed, from+k+12)
		}
		all = append(all, Entry{side(k), side(k + 1), le16(k + 4), le16(k + 6), size, from + place})
	}
	m.bytes = 6 + 16*n
	m.dir = Dir{Cursor: cursor, Count: n, Best: best(cursor, all)}
	m.dir.Entry = all[m.dir.Best]
	return m
}

// best is which entry is, by the chapter's words: those that aren't are crossed out one by one.
func best(cursor bool, l []Entry) int {
	var left []int
	area, bits := 0, 0
	for _, e := range l {
		area = max(area, e.Width*e.Height)
	}
	for i, e := range l {
		if e.Width*e.Height == area {
			left = append(left, i)
			bits = max(bits, e.B)
		}
	}
	if !cursor {
		left = slices.DeleteFunc(left, func(i int) bool { return l[i].B != bits })
	}
	return left[0]
}

// held holds what Read tells of a text against the chapter's words: from its beginning on, and behind and ahead of other bytes that a window leaves out.
func held(t *testing.T, s string) {
	t.Helper()
	for _, ahead := range []int{0, 3} {
		text := strings.Repeat("x", ahead) + s + strings.Repeat("x", 5*ahead)
		to := ahead + len(s)
		x, _ := source(t, math.MaxInt, text).Window(min(ahead, 1), to-min(ahead, 1))
		x.Seek(ahead)
		want := meant(text, ahead, to)
		d, f := Read(x)
		if d != want.dir || f != want.fault {
			t.Fatalf("%q behind %d: %+v, %+v, not %+v, %+v", s, ahead, d, f, want.dir, want.fault)
		}
		if f == (api.Fault{}) && x.At() != ahead+want.bytes {
			t.Fatalf("%q behind %d: the source is at %d, not behind %d", s, ahead, x.At(), want.bytes)
		}
		if n := x.Ledger().Steps(); n != want.readings {
			t.Fatalf("%q: %d steps, not %d", s, n, want.readings)
		}
		if x.Ledger().Peak() != 0 {
			t.Fatalf("%q: %d bytes were kept", s, x.Ledger().Peak())
		}
	}
}

// P24.1: the chapter's example.
func TestExample(t *testing.T) {
	s := directory(1, Entry{16, 16, 1, 8, 1, 38}, Entry{32, 32, 1, 4, 2, 39}) + "abc"
	d, f := Read(source(t, 3, s))
	if d != (Dir{Count: 2, Best: 1, Entry: Entry{32, 32, 1, 4, 2, 39}}) || f != (api.Fault{}) {
		t.Errorf("%+v, %+v", d, f)
	}
	held(t, s)
}

// P24.1: directories of icons and of cursors, with windows about their end and the source's.
func TestRead(t *testing.T) {
	for kind, cursor := range []bool{1: false, 2: true} {
		if kind == 0 {
			continue
		}
		for n := 1; n <= 4; n++ {
			end := 6 + 16*n
			for place := range end + 12 {
				for size := range 12 {
					l := slices.Repeat([]Entry{{3, 4, 5, 6, 0, end}}, n)
					for i := range l {
						l[i] = Entry{0, 7, 0xfedc, 0x1234, size, place}
						held(t, directory(kind, l...)+"some bytes")
						l[i] = Entry{3, 4, 5, 6, 0, end}
					}
				}
			}
		}
		s := directory(kind, Entry{0, 255, 0x0102, 0xfffe, 3, 24}) + "12abc!"
		d, f := Read(source(t, 2, s))
		if d != (Dir{Cursor: cursor, Count: 1, Entry: Entry{256, 255, 0x0102, 0xfffe, 3, 24}}) || f != (api.Fault{}) {
			t.Errorf("%+v, %+v", d, f)
		}
	}
}

// P24.1: places and sizes that are great, and whose sum is.
func TestFar(t *testing.T) {
	numbers := []int{0, 1, 21, 22, 23, 24, 25, 255, 256, 1<<16 - 1, 1 << 16, 1 << 24, 1<<31 - 1, 1 << 31, 1<<32 - 22, 1<<32 - 1}
	for _, place := range numbers {
		for _, size := range numbers {
			held(t, directory(2, Entry{1, 1, 0, 0, size, place})+"!!")
			held(t, directory(1, Entry{1, 1, 0, 0, size, place})+strings.Repeat("!", 1<<17))
		}
	}
}

// P24.1: what is wrong, where it stands, and what is told first.
func TestWrong(t *testing.T) {
	one := Entry{1, 1, 1, 1, 1, 22}
	for _, x := range []struct {
		s string
		f api.Fault
	}{
		{"", fault(api.Truncated, 0)},
		{"ab", fault(api.Truncated, 2)},
		{"\x00\x00\x01\x00\x01", fault(api.Truncated, 5)},
		{"\x01\x00\x03\x00\x00\x00", fault(api.Malformed, 0)},
		{"\x00\x01\x00\x00\x00\x00", fault(api.Malformed, 0)},
		{"\x00\x00\x00\x00\x00\x00", fault(api.Malformed, 2)},
		{"\x00\x00\x03\x00\x00\x00", fault(api.Malformed, 2)},
		{"\x00\x00\x01\x01\x00\x00", fault(api.Malformed, 2)},
		{"\x00\x00\x01\x00\x00\x00", fault(api.Malformed, 4)},
		{"\x00\x00\x02\x00\x00\x00" + entryBytes(one), fault(api.Malformed, 4)},
		{"\x00\x00\x02\x00\x00\x01" + entryBytes(one), fault(api.Malformed, 18)},
		{"\x00\x00\x01\x00\x01\x00", fault(api.Truncated, 6)},
		{directory(1, one), fault(api.Malformed, 18)},
		{directory(1, one)[:21], fault(api.Truncated, 21)},
		{directory(1, Entry{1, 1, 1, 1, 0, 21}) + "!", fault(api.Malformed, 18)},
		{directory(1, Entry{1, 1, 1, 1, 0, 0}) + "!", fault(api.Malformed, 18)},
		{directory(1, Entry{1, 1, 1, 1, 0, 24}) + "!", fault(api.Malformed, 18)},
		{directory(1, Entry{1, 1, 1, 1, 2, 22}) + "!", fault(api.Malformed, 18)},
		{directory(1, Entry{1, 1, 1, 1, 1 << 31, 22}) + "!", fault(api.Malformed, 18)},
		{directory(1, Entry{1, 1, 1, 1, 1, 38}, Entry{1, 1, 1, 1, 1, 37}) + "!", fault(api.Malformed, 34)},
		{directory(1, Entry{1, 1, 1, 1, 1, 38}, Entry{1, 1, 1, 1, 2, 38}) + "!", fault(api.Malformed, 34)},
		{directory(1, Entry{1, 1, 1, 1, 2, 38}, Entry{1, 1, 1, 1, 2, 38}) + "!", fault(api.Malformed, 18)},
		// The first entry is asked ahead of the second one's bytes.
		{head(1, 2) + entryBytes(one), fault(api.Malformed, 18)},
		{head(1, 2) + entryBytes(Entry{1, 1, 1, 1, 0, 38}), fault(api.Malformed, 18)},
		{head(1, 2) + entryBytes(Entry{1, 1, 1, 1, 0, 38}) + "0123456789abcde", fault(api.Malformed, 18)},
		{head(1, 3) + entryBytes(Entry{1, 1, 1, 1, 0, 54}) + entryBytes(Entry{1, 1, 1, 1, 0, 54}) + "0123456789abcde", fault(api.Malformed, 18)},
	} {
		if d, f := Read(source(t, 9, x.s)); d != (Dir{}) || f != x.f {
			t.Errorf("%q: %+v, %+v, not %+v", x.s, d, f, x.f)
		}
		held(t, x.s)
	}
}

// P24.1: a directory that is cut off anywhere; its windows go beyond the end, which is asked first where an entry is there.
func TestCutOff(t *testing.T) {
	s := directory(1, Entry{1, 1, 1, 1, 1, 54}, Entry{2, 2, 1, 1, 1, 55}, Entry{1, 1, 1, 1, 1, 56}) + "abc"
	for n := range len(s) {
		held(t, s[:n])
		want := fault(api.Truncated, n)
		switch {
		case n >= 56:
			want = fault(api.Malformed, 50)
		case n >= 55:
			want = fault(api.Malformed, 34)
		case n >= 22:
			want = fault(api.Malformed, 18)
		}
		if d, f := Read(source(t, 9, s[:n])); d != (Dir{}) || f != want {
			t.Errorf("%d bytes: %+v, %+v", n, d, f)
		}
	}
}

// P24.1: by each number of steps that aren't enough: Spent, at the source's place.
func TestSteps(t *testing.T) {
	s := directory(2, slices.Repeat([]Entry{{9, 9, 1, 1, 0, 6 + 16*5}}, 5)...)
	for ahead := range 3 {
		for n := range 6 {
			x := source(t, n, "ab"[:ahead]+s)
			x.Seek(ahead)
			want := fault(api.Spent, ahead)
			if n > 0 {
				want.At += 6 + 16*(n-1)
			}
			if d, f := Read(x); d != (Dir{}) || f != want || x.At() != f.At {
				t.Errorf("%d steps: %+v, %+v at %d", n, d, f, x.At())
			}
		}
		x := source(t, 6, "ab"[:ahead]+s)
		x.Seek(ahead)
		if d, f := Read(x); d.Count != 5 || !d.Cursor || f != (api.Fault{}) {
			t.Errorf("%+v, %+v", d, f)
		}
	}
}

// P24.1: the best entry: by its area; of icons by its bits; else the first one. All short lists of a few entries.
func TestBest(t *testing.T) {
	entries := []Entry{{4, 4, 1, 8, 0, 0}, {2, 8, 9, 8, 0, 0}, {4, 4, 1, 24, 0, 0}, {16, 1, 70, 4, 0, 0}, {5, 3, 2, 32, 0, 0}, {0, 1, 1, 1, 0, 0}}
	var lists func(l []Entry, n int)
	lists = func(l []Entry, n int) {
		if n == 0 {
			for kind := 1; kind <= 2; kind++ {
				m := slices.Clone(l)
				for i := range m {
					m[i].Size, m[i].Place = i, 6+16*len(m)+i
				}
				s := directory(kind, m...) + strings.Repeat("!", 2*len(m))
				held(t, s)
			}
			return
		}
		for _, e := range entries {
			lists(append(slices.Clone(l), e), n-1)
		}
	}
	for n := 1; n <= 4; n++ {
		lists(nil, n)
	}
	for _, x := range []struct {
		kind, best int
		l          []Entry
	}{
		{1, 1, []Entry{{255, 255, 1, 32, 0, 0}, {0, 0, 1, 1, 0, 0}}},
		{1, 0, []Entry{{0, 1, 1, 8, 0, 0}, {255, 1, 1, 8, 0, 0}, {1, 0, 9, 8, 0, 0}}},
		{1, 2, []Entry{{3, 3, 7, 4, 0, 0}, {3, 3, 1, 8, 0, 0}, {3, 3, 1, 65535, 0, 0}, {3, 3, 1, 256, 0, 0}}},
		{2, 0, []Entry{{3, 3, 7, 4, 0, 0}, {3, 3, 1, 8, 0, 0}, {3, 3, 1, 65535, 0, 0}}},
		{2, 1, []Entry{{3, 3, 7, 400, 0, 0}, {2, 5, 0, 0, 0, 0}, {5, 2, 1, 65535, 0, 0}}},
	} {
		for i := range x.l {
			x.l[i].Place = 6 + 16*len(x.l)
		}
		d, f := Read(source(t, 9, directory(x.kind, x.l...)))
		if f != (api.Fault{}) || d.Best != x.best || d.Count != len(x.l) || d.Entry.Place != 6+16*len(x.l) {
			t.Errorf("%+v: %+v, %+v", x, d, f)
		}
		held(t, directory(x.kind, x.l...))
	}
}

// P24.1: directories of which bytes are others, and any bytes.
func TestChanged(t *testing.T) {
	next := random(24)
	s := directory(1, Entry{1, 2, 3, 4, 5, 54}, Entry{0, 2, 3, 8, 5, 59}, Entry{2, 0, 3, 9, 6, 58}) + "0123456789"
	for at := range s {
		for v := range 256 {
			held(t, with(s, at, v))
		}
	}
	for range 40000 {
		b := s
		for range 1 + next(4) {
			b = with(b, next(len(b)), []int{0, 1, 2, 3, 22, 54, 255, next(256)}[next(8)])
		}
		held(t, b[:next(len(b)+1)])
	}
	for range 20000 {
		b := make([]byte, next(60))
		for i := range b {
			b[i] = []byte{0, 0, 0, 1, 2, 22, 38, byte(next(256))}[next(8)]
		}
		held(t, string(b))
	}
}

// P24.1: as many entries as there may be.
func TestMany(t *testing.T) {
	const n = 65535
	l := slices.Repeat([]Entry{{1, 1, 0, 8, 0, 6 + 16*n}}, n)
	l[n-1].Height = 2
	l[n-1].Size = 3
	s, e := Bytes(true, l)
	if len(s) != 6+16*n || e != api.OK {
		t.Fatalf("%d bytes, %d", len(s), e)
	}
	x := source(t, n+1, s+"abc")
	if d, f := Read(x); d != (Dir{Cursor: true, Count: n, Best: n - 1, Entry: l[n-1]}) || f != (api.Fault{}) || x.Left() != 3 {
		t.Errorf("%+v, %+v", d, f)
	}
	if d, f := Read(source(t, n+1, s+"ab")); d != (Dir{}) || f != fault(api.Malformed, len(s)-4) {
		t.Errorf("%+v, %+v", d, f)
	}
	if g, ok := Get(s, n-1); g != l[n-1] || !ok {
		t.Errorf("%+v, %t", g, ok)
	}
	if _, ok := Get(s, n); ok {
		t.Error("one entry more")
	}
	if s, e := Bytes(true, append(l, l[0])); s != "" || e != api.ErrRange {
		t.Errorf("%d bytes, %d", len(s), e)
	}
}

// P24.1: an entry as it stands there, whatever the first six bytes are.
func TestGet(t *testing.T) {
	l := []Entry{{256, 1, 2, 3, 4, 5}, {255, 256, 65535, 65534, 1<<32 - 1, 1<<32 - 2}, {7, 8, 0x0102, 0x0304, 0x05060708, 0x090a0b0c}}
	for _, first := range []string{head(1, 3), head(2, 1), head(0, 0), "abcdef", "\xff\xff\xff\xff\xff\xff"} {
		s := first
		for _, e := range l {
			s += entryBytes(e)
		}
		for n := range len(s) + 1 {
			for i := -3; i < 6; i++ {
				want, there := Entry{}, i >= 0 && 6+16*(i+1) <= n
				if there {
					want = l[i]
				}
				if e, ok := Get(s[:n], i); e != want || ok != there {
					t.Errorf("%q, %d: %+v, %t", s[:n], i, e, ok)
				}
			}
			for _, i := range []int{math.MinInt, math.MinInt + 1, -1 << 60, 1 << 58, 1<<59 - 1, 1 << 59, 1 << 60, 1<<60 + 1, math.MaxInt} {
				if e, ok := Get(s[:n], i); e != (Entry{}) || ok {
					t.Errorf("%q, %d: %+v", s[:n], i, e)
				}
			}
		}
	}
}

// P24.1: a directory's bytes: those that aren't looked at are 0.
func TestBytes(t *testing.T) {
	l := []Entry{{1, 256, 0x0201, 0x0403, 0x08070605, 0x0c0b0a09}, {256, 255, 0, 65535, 0, 1<<32 - 1}}
	const entries = "\x01\x00\x00\x00\x01\x02\x03\x04\x05\x06\x07\x08\x09\x0a\x0b\x0c" + "\x00\xff\x00\x00\x00\x00\xff\xff\x00\x00\x00\x00\xff\xff\xff\xff"
	for _, x := range []struct {
		cursor bool
		l      []Entry
		want   string
	}{
		{false, l, "\x00\x00\x01\x00\x02\x00" + entries},
		{true, l, "\x00\x00\x02\x00\x02\x00" + entries},
		{true, l[:1], "\x00\x00\x02\x00\x01\x00" + entries[:16]},
	} {
		had := slices.Clone(x.l)
		if s, e := Bytes(x.cursor, x.l); s != x.want || e != api.OK {
			t.Errorf("%q, %d, not %q", s, e, x.want)
		}
		if !slices.Equal(had, x.l) {
			t.Errorf("the list is another one: %+v", x.l)
		}
	}
}

// P24.1, P24.2: entries whose numbers are about their ends, wherever they stand: their bytes, of which Get tells them, or none.
func TestRange(t *testing.T) {
	sides := []int{math.MinInt, -255, -1, 0, 1, 2, 255, 256, 257, 512, 1<<32 + 1, math.MaxInt}
	short := []int{math.MinInt, -1, 0, 1, 255, 256, 65535, 65536, 1<<32 + 1, math.MaxInt}
	long := []int{math.MinInt, -1, 0, 1, 65536, 1 << 31, 1<<32 - 1, 1 << 32, 1<<32 + 1, math.MaxInt}
	one := Entry{1, 2, 3, 4, 5, 6}
	for i, numbers := range [][]int{sides, sides, short, short, long, long} {
		most := []int{256, 256, 65535, 65535, 1<<32 - 1, 1<<32 - 1}[i]
		least := []int{1, 1, 0, 0, 0, 0}[i]
		for _, v := range numbers {
			e := one
			*[]*int{&e.Width, &e.Height, &e.A, &e.B, &e.Size, &e.Place}[i] = v
			for _, l := range [][]Entry{{e}, {e, one}, {one, e}, {one, one, e}, {e, e, e}} {
				back(t, l, v >= least && v <= most)
			}
		}
	}
	back(t, nil, false)
	back(t, []Entry{}, false)
	back(t, []Entry{{}}, false)
}

// back holds entries against those that Get tells of their bytes, if there are any.
func back(t *testing.T, l []Entry, right bool) {
	t.Helper()
	for _, cursor := range []bool{false, true} {
		s, e := Bytes(cursor, l)
		if !right {
			if s != "" || e != api.ErrRange {
				t.Errorf("%+v: %q, %d", l, s, e)
			}
			continue
		}
		if len(s) != 6+16*len(l) || e != api.OK || !Is(s) {
			t.Fatalf("%+v: %q, %d", l, s, e)
		}
		for i, want := range l {
			if got, ok := Get(s, i); got != want || !ok {
				t.Errorf("%+v: %+v, %t", want, got, ok)
			}
		}
		if got, ok := Get(s, len(l)); got != (Entry{}) || ok {
			t.Errorf("%+v behind the last one", got)
		}
	}
}

// P24.2: any entries; a directory whose windows may be is read, too.
func TestBack(t *testing.T) {
	next := random(2)
	for range 3000 {
		l := make([]Entry, 1+next(20))
		for i := range l {
			l[i] = Entry{1 + next(256), 1 + next(256), next(65536), next(65536), next(1 << 31), next(1 << 31)}
			l[i].Size, l[i].Place = 2*l[i].Size+next(2), 2*l[i].Place+next(2)
		}
		back(t, l, true)
		for i := range l {
			l[i].Size, l[i].Place = next(9), 6+16*len(l)+next(9)
		}
		for _, cursor := range []bool{false, true} {
			s, _ := Bytes(cursor, l)
			held(t, s+"0123456789abcdef")
			d, f := Read(source(t, 99, s+"0123456789abcdef"))
			if want := (Dir{cursor, len(l), best(cursor, l), l[best(cursor, l)]}); d != want || f != (api.Fault{}) {
				t.Errorf("%+v, %+v, not %+v", d, f, want)
			}
		}
	}
}

// P24.1: what begins as a directory does: each byte, and how many there are.
func TestIs(t *testing.T) {
	for kind := 1; kind <= 2; kind++ {
		s := head(kind, 1) + "\x10\x20\xff\x00more"
		for n := range len(s) + 1 {
			if Is(s[:n]) != (n >= 10) {
				t.Errorf("%q", s[:n])
			}
		}
		for at := range s {
			for v := range 256 {
				want := true
				switch at {
				case 0, 1, 3, 9:
					want = v == 0
				case 2:
					want = v == 1 || v == 2
				case 4:
					want = v > 0
				}
				if Is(with(s, at, v)) != want {
					t.Errorf("%q with %d at %d", s, v, at)
				}
			}
		}
	}
	if !Is("\x00\x00\x01\x00\x00\x01\x00\x00\x00\x00") || Is("\x00\x00\x01\x00\x00\x00\x00\x00\x00\x00") || Is(strings.Repeat("\x00", 40)) {
		t.Error("entries of which there are 256, or none")
	}
}
