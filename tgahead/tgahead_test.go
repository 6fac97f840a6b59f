package tgahead

import (
	"math"
	"slices"
	"strings"
	"testing"

	"tintype/api"
	"tintype/ledger"
	"tintype/src"
)

// random tells numbers below n, of a seed of its own.
func random() func(n int) int {
	seed := uint64(1)
	return func(n int) int {
		seed = seed*6364136223846793005 + 1442695040888963407
		return int(seed>>31) % n
	}
}

// source goes over all of s, and may do so many steps.
func source(t *testing.T, steps int, s string) *src.Src {
	t.Helper()
	x, e := src.New(ledger.New(api.Budget{MaxWork: steps}), s)
	if e != api.OK {
		t.Fatalf("no source of %q: %d", s, e)
	}
	return x
}

func fault(kind, at int) api.Fault {
	return api.Fault{Kind: kind, Format: api.TGA, At: at}
}

// bytes is a head of these numbers, told one by one.
func bytes(name, mapped, kind, first, count, entry, width, height, depth, flags int) string {
	b := []byte{byte(name), byte(mapped), byte(kind), byte(first), byte(first >> 8), byte(count), byte(count >> 8), byte(entry), 0, 0, 0, 0, byte(width), byte(width >> 8), byte(height), byte(height >> 8), byte(depth), byte(flags)}
	return string(b)
}

// with is a text whose byte at a place is another.
func with(s string, at, v int) string {
	b := []byte(s)
	b[at] = byte(v)
	return string(b)
}

// right are heads with which nothing is wrong, of all types, bits and flags, and what is told of them.
func right() map[string]Head {
	return map[string]Head{
		bytes(0, 0, 2, 0, 0, 0, 1, 1, 24, 0):                          {Type: 2, Width: 1, Height: 1, Depth: 24},
		bytes(255, 0, 2, 0, 0, 0, 16384, 16384, 32, 0x08):             {Name: 255, Type: 2, Width: 16384, Height: 16384, Depth: 32, Alpha: 8},
		bytes(1, 0, 2, 0, 0, 0, 258, 513, 32, 0):                      {Name: 1, Type: 2, Width: 258, Height: 513, Depth: 32},
		bytes(0, 0, 2, 0, 0, 0, 2, 3, 15, 0x10):                       {Type: 2, Width: 2, Height: 3, Depth: 15, Left: true},
		bytes(0, 0, 2, 0, 0, 0, 2, 3, 16, 0x20):                       {Type: 2, Width: 2, Height: 3, Depth: 16, Top: true},
		bytes(0, 0, 10, 0, 0, 0, 2, 3, 16, 0x31):                      {Type: 10, Width: 2, Height: 3, Depth: 16, Alpha: 1, Left: true, Top: true},
		bytes(0, 0, 10, 0, 0, 0, 2, 3, 24, 0x30):                      {Type: 10, Width: 2, Height: 3, Depth: 24, Left: true, Top: true},
		bytes(7, 0, 10, 0, 0, 0, 2, 3, 32, 0x28):                      {Name: 7, Type: 10, Width: 2, Height: 3, Depth: 32, Alpha: 8, Top: true},
		bytes(0, 0, 3, 0, 0, 0, 9, 8, 8, 0):                           {Type: 3, Width: 9, Height: 8, Depth: 8},
		bytes(0, 0, 11, 0, 0, 0, 9, 8, 8, 0x20):                       {Type: 11, Width: 9, Height: 8, Depth: 8, Top: true},
		bytes(0, 1, 1, 0, 1, 24, 5, 6, 8, 0):                          {Map: true, Type: 1, Count: 1, Entry: 24, Width: 5, Height: 6, Depth: 8},
		bytes(9, 1, 1, 65535, 65535, 32, 5, 6, 8, 0x10):               {Name: 9, Map: true, Type: 1, First: 65535, Count: 65535, Entry: 32, Width: 5, Height: 6, Depth: 8, Left: true},
		bytes(0, 1, 9, 258, 772, 15, 5, 6, 8, 0x20):                   {Map: true, Type: 9, First: 258, Count: 772, Entry: 15, Width: 5, Height: 6, Depth: 8, Top: true},
		bytes(0, 1, 9, 3, 256, 16, 256, 512, 8, 0):                    {Map: true, Type: 9, First: 3, Count: 256, Entry: 16, Width: 256, Height: 512, Depth: 8},
		bytes(0, 1, 2, 4, 5, 16, 5, 6, 24, 0):                         {Map: true, Type: 2, First: 4, Count: 5, Entry: 16, Width: 5, Height: 6, Depth: 24},
		bytes(0, 1, 3, 0, 5, 32, 5, 6, 8, 0):                          {Map: true, Type: 3, Count: 5, Entry: 32, Width: 5, Height: 6, Depth: 8},
		bytes(0, 1, 11, 0, 5, 24, 5, 6, 8, 0):                         {Map: true, Type: 11, Count: 5, Entry: 24, Width: 5, Height: 6, Depth: 8},
		bytes(0, 1, 10, 0, 5, 15, 5, 6, 15, 0):                        {Map: true, Type: 10, Count: 5, Entry: 15, Width: 5, Height: 6, Depth: 15},
		bytes(0, 0, 2, 0, 0, 0, 1, 16384, 16, 1):                      {Type: 2, Width: 1, Height: 16384, Depth: 16, Alpha: 1},
		with(bytes(0, 0, 2, 0, 0, 0, 1, 1, 24, 0), 9, 7):              {Type: 2, Width: 1, Height: 1, Depth: 24},
		with(bytes(0, 0, 2, 0, 0, 0, 1, 1, 24, 0), 10, 255):           {Type: 2, Width: 1, Height: 1, Depth: 24},
		bytes(0, 0, 3, 0xffff, 0xffff, 0xff, 1, 1, 8, 0):              {Type: 3, Width: 1, Height: 1, Depth: 8},
		bytes(0, 0, 10, 1, 0, 7, 1, 1, 24, 0):                         {Type: 10, Width: 1, Height: 1, Depth: 24},
		with(with(bytes(0, 1, 9, 1, 2, 24, 3, 4, 8, 0), 8, 9), 11, 1): {Map: true, Type: 9, First: 1, Count: 2, Entry: 24, Width: 3, Height: 4, Depth: 8},
	}
}

// seen is a head with 0 where it isn't looked at.
func seen(s string) string {
	b := []byte(s)
	clear(b[8:12])
	if b[1] == 0 {
		clear(b[3:8])
	}
	return string(b)
}

// ill is something that is wrong; a sign may have it all the same, where it is let.
type ill struct {
	f   api.Fault
	let bool
}

// ills are all things that are wrong with 18 bytes, by the chapter's words, in its order.
func ills(s string) []ill {
	var l []ill
	add := func(wrong, let bool, kind, at int) {
		if wrong {
			l = append(l, ill{fault(kind, at), let})
		}
	}
	n := func(at int) int { return 256*int(s[at+1]) + int(s[at]) }
	kind, bits, alpha := s[2], int(s[16]), int(s[17]%16)
	colors := []int{15, 16, 24, 32}
	add(s[1] != 0 && s[1] != 1, false, api.Malformed, 1)
	add(strings.IndexByte("\x01\x02\x03\x09\x0a\x0b", kind) < 0, false, api.Unsupported, 2)
	add((kind == 1 || kind == 9) && s[1] == 0, false, api.Malformed, 1)
	if s[1] == 1 {
		add(!slices.Contains(colors, int(s[7])), false, api.Unsupported, 7)
		add(n(5) == 0, true, api.Malformed, 5)
	}
	for _, at := range []int{12, 14} {
		add(n(at) == 0, false, api.Malformed, at)
		add(n(at) > 16384, true, api.Unsupported, at)
	}
	switch kind {
	case 1, 9, 3, 11:
		add(bits != 8, false, api.Unsupported, 16)
	case 2, 10:
		add(!slices.Contains(colors, bits), false, api.Unsupported, 16)
	}
	add(s[17] >= 64, true, api.Unsupported, 17)
	alphas := map[int][]int{32: {0, 8}, 16: {0, 1}}[bits]
	if alphas == nil {
		alphas = []int{0}
	}
	add(!slices.Contains(alphas, alpha), true, api.Malformed, 17)
	return l
}

// told is the head of 18 bytes with which nothing is wrong.
func told(s string) Head {
	h := Head{
		Name: int(s[0]), Map: s[1] == 1, Type: int(s[2]),
		Width: int(s[12]) + 256*int(s[13]), Height: int(s[14]) + 256*int(s[15]), Depth: int(s[16]),
		Alpha: int(s[17] % 16), Left: s[17]/16%2 == 1, Top: s[17]/32%2 == 1,
	}
	if h.Map {
		h.First, h.Count, h.Entry = int(s[3])+256*int(s[4]), int(s[5])+256*int(s[6]), int(s[7])
	}
	return h
}

// expect holds a source's head against the one that it should have, and the source behind it.
func expect(t *testing.T, s *src.Src, name string, h Head, f api.Fault) {
	t.Helper()
	at, steps := s.At(), s.Ledger().Steps()
	got, g := Read(s)
	if got != h || g != f {
		t.Errorf("%q: %+v, %+v, not %+v, %+v", name, got, g, h, f)
	}
	if f.Kind == api.NoFault && s.At() != at+18 {
		t.Errorf("%q: the source is at %d, not at %d", name, s.At(), at+18)
	}
	if f.Kind != api.Spent && s.Ledger().Steps() != steps+1 {
		t.Errorf("%q: %d steps", name, s.Ledger().Steps()-steps)
	}
}

// read holds the head of a whole text, with a step and no more.
func read(t *testing.T, s string, h Head, f api.Fault) {
	t.Helper()
	expect(t, source(t, 1, s), s, h, f)
}

// held holds 18 bytes, whatever they are, against the chapter's words: what Read tells of them, what Bytes of that, and whether they may be a sign.
func held(t *testing.T, s string) {
	t.Helper()
	l := ills(s)
	is := !slices.ContainsFunc(l, func(x ill) bool { return !x.let })
	if Is(s) != is {
		t.Errorf("%q: Is is not %t", s, is)
	}
	if len(l) > 0 {
		read(t, s, Head{}, l[0].f)
		return
	}
	h := told(s)
	read(t, s, h, api.Fault{})
	if b, e := Bytes(h); b != seen(s) || e != api.OK {
		t.Errorf("%+v: %q, %d, not %q", h, b, e, seen(s))
	}
}

// P16.1: the chapter's example.
func TestExample(t *testing.T) {
	read(t, strings.Repeat("\x00", 18), Head{}, fault(api.Unsupported, 2))
}

// P16.1: heads of all types; what stands behind isn't read.
func TestRead(t *testing.T) {
	for s, h := range right() {
		read(t, s, h, api.Fault{})
		read(t, s+"more", h, api.Fault{})
		held(t, s)
	}
}

// P16.1: what is wrong, and where.
func TestWrong(t *testing.T) {
	for _, x := range []struct {
		s string
		f api.Fault
	}{
		{bytes(0, 2, 2, 0, 0, 0, 1, 1, 24, 0), fault(api.Malformed, 1)},
		{bytes(0, 255, 2, 0, 0, 0, 1, 1, 24, 0), fault(api.Malformed, 1)},
		{bytes(0, 0, 0, 0, 0, 0, 1, 1, 24, 0), fault(api.Unsupported, 2)},
		{bytes(0, 0, 4, 0, 0, 0, 1, 1, 24, 0), fault(api.Unsupported, 2)},
		{bytes(0, 0, 8, 0, 0, 0, 1, 1, 24, 0), fault(api.Unsupported, 2)},
		{bytes(0, 0, 12, 0, 0, 0, 1, 1, 24, 0), fault(api.Unsupported, 2)},
		{bytes(0, 0, 32, 0, 0, 0, 1, 1, 24, 0), fault(api.Unsupported, 2)},
		{bytes(0, 0, 0x82, 0, 0, 0, 1, 1, 24, 0), fault(api.Unsupported, 2)},
		{bytes(0, 0, 1, 0, 0, 0, 1, 1, 8, 0), fault(api.Malformed, 1)},
		{bytes(0, 0, 9, 0, 1, 24, 1, 1, 8, 0), fault(api.Malformed, 1)},
		{bytes(0, 1, 1, 0, 1, 0, 1, 1, 8, 0), fault(api.Unsupported, 7)},
		{bytes(0, 1, 1, 0, 1, 8, 1, 1, 8, 0), fault(api.Unsupported, 7)},
		{bytes(0, 1, 2, 0, 1, 14, 1, 1, 24, 0), fault(api.Unsupported, 7)},
		{bytes(0, 1, 3, 0, 1, 33, 1, 1, 8, 0), fault(api.Unsupported, 7)},
		{bytes(0, 1, 1, 0, 0, 24, 1, 1, 8, 0), fault(api.Malformed, 5)},
		{bytes(0, 1, 2, 7, 0, 24, 1, 1, 24, 0), fault(api.Malformed, 5)},
		{bytes(0, 0, 2, 0, 0, 0, 0, 1, 24, 0), fault(api.Malformed, 12)},
		{bytes(0, 0, 2, 0, 0, 0, 16385, 1, 24, 0), fault(api.Unsupported, 12)},
		{bytes(0, 0, 2, 0, 0, 0, 65535, 1, 24, 0), fault(api.Unsupported, 12)},
		{bytes(0, 0, 2, 0, 0, 0, 1, 0, 24, 0), fault(api.Malformed, 14)},
		{bytes(0, 0, 2, 0, 0, 0, 1, 16385, 24, 0), fault(api.Unsupported, 14)},
		{bytes(0, 0, 2, 0, 0, 0, 1, 65535, 24, 0), fault(api.Unsupported, 14)},
		{bytes(0, 0, 2, 0, 0, 0, 1, 1, 8, 0), fault(api.Unsupported, 16)},
		{bytes(0, 0, 10, 0, 0, 0, 1, 1, 0, 0), fault(api.Unsupported, 16)},
		{bytes(0, 0, 3, 0, 0, 0, 1, 1, 16, 0), fault(api.Unsupported, 16)},
		{bytes(0, 0, 11, 0, 0, 0, 1, 1, 32, 0), fault(api.Unsupported, 16)},
		{bytes(0, 1, 1, 0, 1, 24, 1, 1, 16, 0), fault(api.Unsupported, 16)},
		{bytes(0, 1, 9, 0, 1, 24, 1, 1, 24, 0), fault(api.Unsupported, 16)},
		{bytes(0, 0, 2, 0, 0, 0, 1, 1, 24, 0x40), fault(api.Unsupported, 17)},
		{bytes(0, 0, 2, 0, 0, 0, 1, 1, 32, 0x88), fault(api.Unsupported, 17)},
		{bytes(0, 0, 3, 0, 0, 0, 1, 1, 8, 0xc0), fault(api.Unsupported, 17)},
		{bytes(0, 0, 2, 0, 0, 0, 1, 1, 32, 1), fault(api.Malformed, 17)},
		{bytes(0, 0, 2, 0, 0, 0, 1, 1, 32, 7), fault(api.Malformed, 17)},
		{bytes(0, 0, 2, 0, 0, 0, 1, 1, 16, 8), fault(api.Malformed, 17)},
		{bytes(0, 0, 2, 0, 0, 0, 1, 1, 15, 1), fault(api.Malformed, 17)},
		{bytes(0, 0, 2, 0, 0, 0, 1, 1, 24, 8), fault(api.Malformed, 17)},
		{bytes(0, 0, 3, 0, 0, 0, 1, 1, 8, 0x28), fault(api.Malformed, 17)},
		{bytes(0, 1, 1, 0, 1, 32, 1, 1, 8, 8), fault(api.Malformed, 17)},
	} {
		read(t, x.s, Head{}, x.f)
	}
}

// P16.1: of several things that are wrong the first one of the chapter's is told: a head that is wrong everywhere is mended one by one.
func TestOrder(t *testing.T) {
	s := bytes(0, 3, 0, 0, 0, 9, 0, 0, 7, 0x4f)
	for _, x := range []struct{ kind, at, mend, to int }{
		{api.Malformed, 1, 1, 0},
		{api.Unsupported, 2, 2, 1},
		{api.Malformed, 1, 1, 1},
		{api.Unsupported, 7, 7, 24},
		{api.Malformed, 5, 5, 1},
		{api.Malformed, 12, 13, 65},
		{api.Unsupported, 12, 13, 64},
		{api.Malformed, 14, 15, 255},
		{api.Unsupported, 14, 15, 1},
		{api.Unsupported, 16, 16, 8},
		{api.Unsupported, 17, 17, 0x3f},
		{api.Malformed, 17, 17, 0x30},
	} {
		read(t, s, Head{}, fault(x.kind, x.at))
		held(t, s)
		s = with(s, x.mend, x.to)
	}
	read(t, s, Head{Map: true, Type: 1, Count: 1, Entry: 24, Width: 16384, Height: 256, Depth: 8, Left: true, Top: true}, api.Fault{})
}

// P16.1: fewer bytes than 18 are Truncated at their end, whatever they are.
func TestShort(t *testing.T) {
	for _, s := range []string{bytes(0, 0, 2, 0, 0, 0, 1, 1, 24, 0), strings.Repeat("\xff", 18), strings.Repeat("\x00", 18)} {
		for n := range 18 {
			read(t, s[:n], Head{}, fault(api.Truncated, n))
		}
	}
}

// P16.1: the head stands at the source's place, within what it goes over; places are those of the whole text.
func TestPlace(t *testing.T) {
	for s, h := range right() {
		text := "ab" + s + with(s, 2, 77) + s
		x := source(t, 9, text)
		x.Seek(2)
		expect(t, x, text, h, api.Fault{})
		expect(t, x, text, Head{}, fault(api.Unsupported, 22))
		x.Seek(39)
		expect(t, x, text, Head{}, fault(api.Truncated, 56))
		x.Seek(38)
		expect(t, x, text, h, api.Fault{})
		expect(t, x, text, Head{}, fault(api.Truncated, 56))
		for n, f := range map[int]api.Fault{0: fault(api.Truncated, 2), 17: fault(api.Truncated, 19), 18: {}, 30: {}} {
			w, ok := source(t, 1, text).Window(2, n)
			if !ok {
				t.Fatal(n)
			}
			want := h
			if f.Kind != api.NoFault {
				want = Head{}
			}
			expect(t, w, text, want, f)
		}
		w, _ := source(t, 1, text).Window(20, 18)
		expect(t, w, text, Head{}, fault(api.Unsupported, 22))
	}
}

// P16.1: without a step it is Spent, at the source's place, also where the bytes aren't there, or are wrong.
func TestSpent(t *testing.T) {
	s := bytes(0, 0, 2, 0, 0, 0, 1, 1, 24, 0)
	for _, text := range []string{s, s[:17], "", with(s, 2, 0)} {
		expect(t, source(t, 0, text), text, Head{}, fault(api.Spent, 0))
		expect(t, source(t, -1, text), text, Head{}, fault(api.Spent, 0))
		x := source(t, 0, "abc"+text)
		x.Seek(3)
		expect(t, x, text, Head{}, fault(api.Spent, 3))
		broken := source(t, 100, text)
		broken.Ledger().Take(1)
		expect(t, broken, text, Head{}, fault(api.Spent, 0))
	}
}

// P16.1: each byte of a head, changed to any other.
func TestChanged(t *testing.T) {
	for s := range right() {
		for at := range 18 {
			for v := range 256 {
				held(t, with(s, at, v))
			}
		}
	}
}

// P16.1: any two bytes of a head, changed to such as stand about the chapter's bounds.
func TestChangedTwice(t *testing.T) {
	edges := []int{0, 1, 2, 3, 8, 9, 10, 11, 15, 16, 24, 32, 64, 65, 128, 255}
	for s := range right() {
		for i := range 18 {
			for k := range i {
				for _, a := range edges {
					for _, b := range edges {
						held(t, with(with(s, i, a), k, b))
					}
				}
			}
		}
	}
}

// P16.1: all types with all pixels' bits and flags, with a map and without.
func TestKinds(t *testing.T) {
	for kind := range 16 {
		for _, bits := range []int{0, 1, 7, 8, 9, 14, 15, 16, 17, 23, 24, 25, 31, 32, 33, 255} {
			for flags := range 256 {
				held(t, bytes(0, 0, kind, 0, 0, 0, 3, 4, bits, flags))
				held(t, bytes(0, 1, kind, 5, 6, 32, 3, 4, bits, flags))
			}
		}
	}
}

// P16.1: all sides.
func TestSides(t *testing.T) {
	for n := range 65536 {
		held(t, bytes(0, 0, 3, 0, 0, 0, n, 1, 8, 0))
		held(t, bytes(0, 0, 3, 0, 0, 0, 1, n, 8, 0))
	}
}

// P16.1: any heads, of bytes that are likely.
func TestAny(t *testing.T) {
	next := random()
	pick := func(l ...int) int {
		if next(12) == 0 {
			return next(256)
		}
		return l[next(len(l))]
	}
	for range 200000 {
		colors := []int{15, 16, 24, 32}
		s := bytes(next(256), pick(0, 1), pick(1, 2, 3, 9, 10, 11), next(65536), pick(0, 1, 2, 255)<<next(9), pick(colors...),
			pick(0, 1, 3, 64)<<next(9), pick(0, 1, 3, 64)<<next(9), pick(8, 8, 15, 16, 24, 32), pick(0, 1, 8, 16, 32, 40, 49, 64))
		for at := 8; at < 12; at++ {
			s = with(s, at, next(256))
		}
		held(t, s)
	}
}

// P16.2: a head's bytes are read as it was, and have 0 where they aren't looked at.
func TestBytes(t *testing.T) {
	for s, h := range right() {
		b, e := Bytes(h)
		if b != seen(s) || e != api.OK {
			t.Errorf("%+v: %q, %d, not %q", h, b, e, seen(s))
		}
		read(t, b, h, api.Fault{})
	}
}

// P16.2: all numbers of each field that a head may have.
func TestBytesOfAll(t *testing.T) {
	back := func(h Head) {
		t.Helper()
		b, e := Bytes(h)
		if e != api.OK {
			t.Fatalf("%+v: %d", h, e)
		}
		read(t, b, h, api.Fault{})
	}
	h := Head{Map: true, Type: 1, Count: 1, Entry: 24, Width: 1, Height: 1, Depth: 8}
	for n := range 65536 {
		x := h
		x.Name, x.First = n%256, n
		back(x)
		if x.Count = n; n > 0 {
			back(x)
		}
		if x.Width, x.Height = n, 16385-n; n >= 1 && n <= 16384 {
			back(x)
		}
	}
	for _, kind := range []int{2, 10} {
		for bits, alphas := range map[int][]int{15: {0}, 16: {0, 1}, 24: {0}, 32: {0, 8}} {
			for _, alpha := range alphas {
				for k := range 4 {
					back(Head{Type: kind, Width: 2, Height: 1, Depth: bits, Alpha: alpha, Left: k%2 == 1, Top: k > 1})
				}
			}
		}
	}
}

// may tells by the chapter's words whether Read tells such a head of any bytes.
func may(h Head) bool {
	within := func(v, least, most int) bool { return v >= least && v <= most }
	colors := []int{15, 16, 24, 32}
	if !within(h.Name, 0, 255) || !within(h.Width, 1, 16384) || !within(h.Height, 1, 16384) {
		return false
	}
	if h.Map && (!within(h.First, 0, 65535) || !within(h.Count, 1, 65535) || !slices.Contains(colors, h.Entry)) {
		return false
	}
	if !h.Map && (h.First != 0 || h.Count != 0 || h.Entry != 0) {
		return false
	}
	switch h.Type {
	case 1, 9:
		return h.Map && h.Depth == 8 && h.Alpha == 0
	case 3, 11:
		return h.Depth == 8 && h.Alpha == 0
	case 2, 10:
		return slices.Contains(colors, h.Depth) && (h.Alpha == 0 || h.Depth == 16 && h.Alpha == 1 || h.Depth == 32 && h.Alpha == 8)
	}
	return false
}

// bytesOrNone holds the bytes of a head: they are read as it was, or there are none.
func bytesOrNone(t *testing.T, h Head) {
	t.Helper()
	b, e := Bytes(h)
	if !may(h) {
		if b != "" || e != api.ErrForm {
			t.Errorf("%+v: %q, %d", h, b, e)
		}
		return
	}
	if e != api.OK || seen(b) != b {
		t.Errorf("%+v: %q, %d", h, b, e)
	}
	read(t, b, h, api.Fault{})
}

// numbers are the fields of a head that are numbers.
func numbers(h *Head) []*int {
	return []*int{&h.Name, &h.Type, &h.First, &h.Count, &h.Entry, &h.Width, &h.Height, &h.Depth, &h.Alpha}
}

// P16.1, P16.2: each field of a head made any other number, also such as have right lowest bytes: there are bytes just of heads that Read tells.
func TestBytesOrNone(t *testing.T) {
	bytesOrNone(t, Head{})
	far := []int{math.MinInt, -1 << 32, -65536, -16384, -256, -16, 256, 512, 16384, 16385, 65535, 65536, 1 << 20, 1 << 32, 1 << 62, math.MaxInt}
	for _, h := range right() {
		for i := range numbers(&h) {
			x := h
			field := numbers(&x)[i]
			was := *field
			for n := range 300 {
				*field = n
				bytesOrNone(t, x)
				*field = -n
				bytesOrNone(t, x)
			}
			for _, n := range far {
				for k := range 40 {
					*field = n + k
					bytesOrNone(t, x)
					*field = n - k
					bytesOrNone(t, x)
				}
				*field = was + n
				bytesOrNone(t, x)
			}
		}
		h.Map = !h.Map
		bytesOrNone(t, h)
		h.First, h.Count, h.Entry = 0, 0, 0
		bytesOrNone(t, h)
		h.Count, h.Entry = 1, 24
		bytesOrNone(t, h)
	}
}

// P16.1, P16.2: any two fields made any other numbers.
func TestBytesOfTwo(t *testing.T) {
	some := []int{-8, -1, 0, 1, 2, 3, 8, 9, 10, 11, 15, 16, 24, 32, 255, 256, 16384, 16385, 65536 + 8, 1<<32 + 1}
	for _, h := range right() {
		for i := range numbers(&h) {
			for k := range i {
				x := h
				one, other := numbers(&x)[i], numbers(&x)[k]
				for _, *one = range some {
					for _, *other = range some {
						bytesOrNone(t, x)
					}
				}
			}
		}
	}
}

// P16.1: which types are packets.
func TestPacked(t *testing.T) {
	for kind := -70000; kind < 70000; kind++ {
		if Packed(kind) != (kind == 9 || kind == 10 || kind == 11) {
			t.Errorf("%d: %t", kind, Packed(kind))
		}
	}
	for _, kind := range []int{math.MinInt, math.MinInt + 9, math.MaxInt, 1<<32 + 9, 1<<32 + 10, -1<<32 + 11, 1<<62 + 9} {
		if Packed(kind) {
			t.Errorf("%d is", kind)
		}
	}
}

// P16.1: a sign may have no entries of a map, sides above the greatest, and any flags, all at once; nothing else that is wrong.
func TestIs(t *testing.T) {
	for s := range right() {
		if !Is(s) || !Is(s+"more") || !Is(s+s) {
			t.Errorf("%q is none", s)
		}
		for n := range s {
			if Is(s[:n]) {
				t.Errorf("%q is one", s[:n])
			}
		}
	}
	for s, want := range map[string]bool{
		bytes(0, 1, 1, 0, 0, 24, 1, 1, 8, 0):             true,
		bytes(0, 1, 2, 0, 0, 24, 1, 1, 24, 0):            true,
		bytes(0, 0, 2, 0, 0, 0, 16385, 1, 24, 0):         true,
		bytes(0, 0, 2, 0, 0, 0, 1, 65535, 24, 0):         true,
		bytes(0, 0, 2, 0, 0, 0, 1, 1, 24, 0xc0):          true,
		bytes(0, 0, 2, 0, 0, 0, 1, 1, 24, 0x0f):          true,
		bytes(0, 1, 9, 0, 0, 15, 65535, 65535, 8, 0xff):  true,
		bytes(0, 1, 9, 0, 0, 15, 65535, 65535, 24, 0xff): false,
		bytes(0, 1, 9, 0, 0, 14, 65535, 65535, 8, 0xff):  false,
		bytes(0, 1, 9, 0, 0, 15, 0, 65535, 8, 0xff):      false,
		bytes(0, 1, 9, 0, 0, 15, 65535, 0, 8, 0xff):      false,
		bytes(0, 0, 9, 0, 0, 15, 65535, 65535, 8, 0xff):  false,
		bytes(0, 2, 9, 0, 0, 15, 65535, 65535, 8, 0xff):  false,
		bytes(0, 1, 8, 0, 0, 15, 65535, 65535, 8, 0xff):  false,
		strings.Repeat("\x00", 18):                       false,
		strings.Repeat("\x00", 100):                      false,
		"":                                               false,
	} {
		if Is(s) != want {
			t.Errorf("%q: not %t", s, want)
		}
	}
}
