package dibhead

import (
	"encoding/binary"
	"math"
	"slices"
	"strings"
	"testing"

	"tintype/api"
	"tintype/ledger"
	"tintype/mask"
	"tintype/src"
)

// random tells numbers below n, of a seed of its own.
func random() func(n int) int {
	seed := uint64(1)
	return func(n int) int {
		seed = seed*6364136223846793005 + 1442695040888963407
		return int(seed>>31) % n
	}
}

// source goes over all of s, and may do so many steps.
func source(t *testing.T, steps int, s string) *src.Src {
	t.Helper()
	x, e := src.New(ledger.New(api.Budget{MaxWork: steps}), s)
	if e != api.OK {
		t.Fatalf("no source of %q: %d", s, e)
	}
	return x
}

func fault(kind, at int) api.Fault {
	return api.Fault{Kind: kind, Format: api.BMP, At: at}
}

// Sizes of heads.
var (
	longSizes = []int{40, 52, 56, 108, 124}
	allSizes  = append([]int{12}, longSizes...)
)

// shortHead is the bytes of a head of 12 bytes.
func shortHead(width, height, planes, bits int) string {
	b := binary.LittleEndian.AppendUint32(nil, 12)
	for _, v := range []int{width, height, planes, bits} {
		b = binary.LittleEndian.AppendUint16(b, uint16(v))
	}
	return string(b)
}

// longHead is the bytes of another head, and of the masks that belong to it; what isn't looked at is any. Masks that it has no room for are left out.
func longHead(size, width, height, planes, bits, method, colors int, masks ...int) string {
	n := size
	if size == 40 && method == 3 {
		n = 52
	}
	b := make([]byte, n)
	for i := range b {
		b[i] = byte(29*i + 131)
	}
	long := func(at, v int) { binary.LittleEndian.PutUint32(b[at:], uint32(v)) }
	long(0, size)
	long(4, width)
	long(8, height)
	binary.LittleEndian.PutUint16(b[12:], uint16(planes))
	binary.LittleEndian.PutUint16(b[14:], uint16(bits))
	long(16, method)
	long(32, colors)
	for i, m := range masks {
		if at := 40 + 4*i; at < n {
			long(at, m)
		}
	}
	return string(b)
}

// with is a text whose byte at a place is another.
func with(s string, at, v int) string {
	b := []byte(s)
	b[at] = byte(v)
	return string(b)
}

// Sets of masks that may be.
var (
	five    = mask.Set{R: mask.Mask{Shift: 10, Bits: 5}, G: mask.Mask{Shift: 5, Bits: 5}, B: mask.Mask{Bits: 5}}
	eight   = mask.Set{R: mask.Mask{Shift: 16, Bits: 8}, G: mask.Mask{Shift: 8, Bits: 8}, B: mask.Mask{Bits: 8}}
	six     = mask.Set{R: mask.Mask{Shift: 11, Bits: 5}, G: mask.Mask{Shift: 5, Bits: 6}, B: mask.Mask{Bits: 5}}
	upright = mask.Set{R: mask.Mask{Bits: 8}, G: mask.Mask{Shift: 8, Bits: 8}, B: mask.Mask{Shift: 16, Bits: 8}, A: mask.Mask{Shift: 24, Bits: 8}}
)

// right are heads with which nothing is wrong, and what is told of them.
func right() map[string]Head {
	l := map[string]Head{
		shortHead(1, 1, 1, 1):                               {Size: 12, Width: 1, Height: 1, Depth: 1, Colors: 2},
		shortHead(258, 513, 1, 4):                           {Size: 12, Width: 258, Height: 513, Depth: 4, Colors: 16},
		shortHead(16384, 16384, 1, 8):                       {Size: 12, Width: 16384, Height: 16384, Depth: 8, Colors: 256},
		shortHead(7, 9, 1, 24):                              {Size: 12, Width: 7, Height: 9, Depth: 24},
		longHead(40, 9, 4, 1, 16, 3, 0, 0xf800, 0x7e0, 31):  {Size: 40, Width: 9, Height: 4, Depth: 16, Method: 3, Masks: six},
		longHead(40, 9, -4, 1, 32, 3, 256, 255, 65280, 0):   {Size: 40, Width: 9, Height: 4, Top: true, Depth: 32, Method: 3, Colors: 256, Masks: mask.Set{R: upright.R, G: upright.G}},
		longHead(52, 9, 4, 1, 16, 3, 2, 0xf800, 0x7e0, 31):  {Size: 52, Width: 9, Height: 4, Depth: 16, Method: 3, Colors: 2, Masks: six},
		longHead(40, 9, 4, 1, 16, 3, 0, 0, 0, 0):            {Size: 40, Width: 9, Height: 4, Depth: 16, Method: 3},
		longHead(40, 9, 4, 1, 32, 3, 0, 0xffffffff, 0, 0):   {Size: 40, Width: 9, Height: 4, Depth: 32, Method: 3, Masks: mask.Set{R: mask.Mask{Bits: 32}}},
		longHead(40, 9, 4, 1, 32, 3, 0, 1, 0, 1<<31):        {Size: 40, Width: 9, Height: 4, Depth: 32, Method: 3, Masks: mask.Set{R: mask.Mask{Bits: 1}, B: mask.Mask{Shift: 31, Bits: 1}}},
		longHead(108, 1, 4, 1, 16, 3, 1, 15, 240, 1<<8, 0):  {Size: 108, Width: 1, Height: 4, Depth: 16, Method: 3, Colors: 1, Masks: mask.Set{R: mask.Mask{Bits: 4}, G: mask.Mask{Shift: 4, Bits: 4}, B: mask.Mask{Shift: 8, Bits: 1}}},
		longHead(124, 1, 4, 1, 16, 3, 0, 0, 0, 0, 1<<15):    {Size: 124, Width: 1, Height: 4, Depth: 16, Method: 3, Masks: mask.Set{A: mask.Mask{Shift: 15, Bits: 1}}},
		longHead(40, 16384, -16384, 1, 24, 0, 255):          {Size: 40, Width: 16384, Height: 16384, Top: true, Depth: 24, Colors: 255},
		longHead(40, 16384, 16384, 1, 24, 0, 256):           {Size: 40, Width: 16384, Height: 16384, Depth: 24, Colors: 256},
		longHead(124, 300, 200, 1, 32, 0, 7, 255, 255, 255): {Size: 124, Width: 300, Height: 200, Depth: 32, Colors: 7, Masks: eight},
	}
	for _, size := range longSizes {
		l[longHead(size, 5, 6, 1, 1, 0, 0)] = Head{Size: size, Width: 5, Height: 6, Depth: 1, Colors: 2}
		l[longHead(size, 5, -6, 1, 1, 0, 1)] = Head{Size: size, Width: 5, Height: 6, Top: true, Depth: 1, Colors: 1}
		l[longHead(size, 5, 6, 1, 4, 0, 15)] = Head{Size: size, Width: 5, Height: 6, Depth: 4, Colors: 15}
		l[longHead(size, 5, 6, 1, 4, 2, 16)] = Head{Size: size, Width: 5, Height: 6, Depth: 4, Method: 2, Colors: 16}
		l[longHead(size, 5, 6, 1, 8, 0, 256)] = Head{Size: size, Width: 5, Height: 6, Depth: 8, Colors: 256}
		l[longHead(size, 5, 6, 1, 8, 1, 0)] = Head{Size: size, Width: 5, Height: 6, Depth: 8, Method: 1, Colors: 256}
		l[longHead(size, 5, -6, 1, 16, 0, 0)] = Head{Size: size, Width: 5, Height: 6, Top: true, Depth: 16, Masks: five}
		l[longHead(size, 5, 6, 1, 24, 0, 0)] = Head{Size: size, Width: 5, Height: 6, Depth: 24}
		l[longHead(size, 5, 6, 1, 32, 0, 3)] = Head{Size: size, Width: 5, Height: 6, Depth: 32, Colors: 3, Masks: eight}
		if size >= 56 {
			l[longHead(size, 5, -6, 1, 32, 3, 0, 0xff, 0xff00, 0xff0000, 0xff000000)] = Head{Size: size, Width: 5, Height: 6, Top: true, Depth: 32, Method: 3, Masks: upright}
		}
	}
	return l
}

// meaning is what the chapter's words say of the bytes of a source: a head, or a kind and a place; and how many bytes and readings it took.
type meaning struct {
	head           Head
	kind, at       int
	bytes, reading int
}

// meant reads a head by the chapter's words, thing by thing.
func meant(s string) meaning {
	m := meaning{reading: 1}
	fail := func(kind, at int) meaning {
		m.head, m.kind, m.at = Head{}, kind, at
		return m
	}
	if len(s) < 4 {
		return fail(api.Truncated, len(s))
	}
	m.bytes = 4
	size := int(binary.LittleEndian.Uint32([]byte(s)))
	if size == 16 || size == 64 {
		return fail(api.Unsupported, 0)
	}
	if !slices.Contains(allSizes, size) {
		return fail(api.Malformed, 0)
	}
	m.reading = 2
	if len(s) < size {
		return fail(api.Truncated, len(s))
	}
	m.bytes = size
	le16 := func(at int) int { return int(s[at]) + 256*int(s[at+1]) }
	le32 := func(at int) int { return le16(at) + 65536*le16(at+2) }
	int32 := func(at int) int {
		if v := le32(at); v < 1<<31 {
			return v
		}
		return le32(at) - 1<<32
	}
	width, height, planes, bits, method, told := le16(4), 0, 0, 0, 0, 0
	atHeight, atPlanes, atBits := 8, 12, 14
	depths := []int{1, 4, 8, 16, 24, 32}
	if size == 12 {
		atHeight, atPlanes, atBits = 6, 8, 10
		depths = []int{1, 4, 8, 24}
		height = le16(6)
	} else {
		width, height, method, told = int32(4), int32(8), le32(16), le32(32)
	}
	planes, bits = le16(atPlanes), le16(atBits)
	top := height < 0
	if top {
		height = -height
	}
	colors := map[int]int{1: 2, 4: 16, 8: 256}[bits]
	most := colors
	if most == 0 {
		most = 256
	}
	switch {
	case width <= 0:
		return fail(api.Malformed, 4)
	case width > 16384:
		return fail(api.Unsupported, 4)
	case height == 0:
		return fail(api.Malformed, atHeight)
	case height > 16384:
		return fail(api.Unsupported, atHeight)
	case planes != 1:
		return fail(api.Malformed, atPlanes)
	case !slices.Contains(depths, bits):
		return fail(api.Unsupported, atBits)
	case method > 3:
		return fail(api.Unsupported, 16)
	case method == 1 && bits != 8, method == 2 && bits != 4, method == 3 && bits != 16 && bits != 32:
		return fail(api.Malformed, 16)
	case (method == 1 || method == 2) && top:
		return fail(api.Malformed, 8)
	case told > most:
		return fail(api.Malformed, 32)
	}
	if told > 0 {
		colors = told
	}
	var set mask.Set
	switch {
	case method == 3:
		if size == 40 {
			m.reading = 3
			if len(s) < 52 {
				return fail(api.Truncated, len(s))
			}
			m.bytes = 52
		}
		a := 0
		if size >= 56 {
			a = le32(52)
		}
		var i int
		var e api.Errno
		set, i, e = mask.Four(le32(40), le32(44), le32(48), a, bits)
		if e != api.OK {
			return fail(api.Malformed, 40+4*i)
		}
	case bits == 16:
		set = five
	case bits == 32:
		set = eight
	}
	m.head = Head{Size: size, Width: width, Height: height, Top: top, Depth: bits, Method: method, Colors: colors, Masks: set}
	return m
}

// held holds what Read tells of a text against the chapter's words, from the text's beginning on, and behind other bytes.
func held(t *testing.T, s string) {
	t.Helper()
	m := meant(s)
	for _, ahead := range []int{0, 5} {
		x := source(t, 3, strings.Repeat("x", ahead)+s)
		x.Seek(ahead)
		h, f := Read(x, api.ICO)
		want, head := api.Fault{}, m.head
		if m.kind != api.NoFault {
			want = api.Fault{Kind: m.kind, Format: api.ICO, At: ahead + m.at}
		} else {
			head.From = ahead
		}
		if h != head || f != want {
			t.Fatalf("%q behind %d: %+v, %+v, not %+v, %+v", s, ahead, h, f, head, want)
		}
		if m.kind == api.NoFault && x.At() != ahead+m.bytes {
			t.Fatalf("%q behind %d: the source is at %d, not behind %d", s, ahead, x.At(), m.bytes)
		}
		if n := x.Ledger().Steps(); n != m.reading {
			t.Fatalf("%q: %d steps, not %d", s, n, m.reading)
		}
	}
}

// P20.1: the chapter's example.
func TestExample(t *testing.T) {
	s := longHead(40, 1, -1, 1, 24, 0, 0)
	h, f := Read(source(t, 2, s), api.BMP)
	if h != (Head{Size: 40, Width: 1, Height: 1, Top: true, Depth: 24}) || f != (api.Fault{}) {
		t.Errorf("%+v, %+v", h, f)
	}
	if h.Stride() != 4 {
		t.Errorf("a row has %d bytes", h.Stride())
	}
}

// P20.1: heads of all sizes, bits and methods, wherever they begin; what stands behind isn't read.
func TestRead(t *testing.T) {
	for s, want := range right() {
		h, f := Read(source(t, 3, s), api.BMP)
		if h != want || f != (api.Fault{}) {
			t.Errorf("%q: %+v, %+v, not %+v", s, h, f, want)
		}
		held(t, s)
		held(t, s+"more")
	}
}

// P20.1: what is wrong, where it stands, and what is told first.
func TestWrong(t *testing.T) {
	l := []struct {
		s string
		f api.Fault
	}{
		{"", fault(api.Truncated, 0)},
		{"\x0c\x00\x00", fault(api.Truncated, 3)},
		{"\x10\x00\x00\x00", fault(api.Unsupported, 0)},
		{"\x40\x00\x00\x00", fault(api.Unsupported, 0)},
		{"\x00\x00\x00\x00", fault(api.Malformed, 0)},
		{"\x28\x00\x00\x01", fault(api.Malformed, 0)},
		{"\x28\x00\x00\x80", fault(api.Malformed, 0)},
		{"\x28\x00\x00\x00", fault(api.Truncated, 4)},
		{shortHead(0, 1, 1, 1), fault(api.Malformed, 4)},
		{shortHead(16385, 1, 1, 1), fault(api.Unsupported, 4)},
		{shortHead(65535, 0, 1, 1), fault(api.Unsupported, 4)},
		{shortHead(1, 0, 2, 3), fault(api.Malformed, 6)},
		{shortHead(1, 16385, 2, 3), fault(api.Unsupported, 6)},
		{shortHead(1, 65535, 1, 1), fault(api.Unsupported, 6)},
		{shortHead(1, 1, 0, 3), fault(api.Malformed, 8)},
		{shortHead(1, 1, 2, 1), fault(api.Malformed, 8)},
		{shortHead(1, 1, 257, 1), fault(api.Malformed, 8)},
		{shortHead(1, 1, 1, 16), fault(api.Unsupported, 10)},
		{shortHead(1, 1, 1, 32), fault(api.Unsupported, 10)},
		{shortHead(1, 1, 1, 0), fault(api.Unsupported, 10)},
		{shortHead(1, 1, 1, 256+8), fault(api.Unsupported, 10)},
		{longHead(40, 0, 0, 1, 24, 0, 0), fault(api.Malformed, 4)},
		{longHead(40, -1, 0, 1, 24, 0, 0), fault(api.Malformed, 4)},
		{longHead(40, -1<<31, 1, 1, 24, 0, 0), fault(api.Malformed, 4)},
		{longHead(40, 16385, 0, 1, 24, 0, 0), fault(api.Unsupported, 4)},
		{longHead(40, 1<<31-1, 1, 1, 24, 0, 0), fault(api.Unsupported, 4)},
		{longHead(52, 65536, 1, 1, 24, 0, 0), fault(api.Unsupported, 4)},
		{longHead(40, 1, 0, 0, 24, 0, 0), fault(api.Malformed, 8)},
		{longHead(40, 1, 16385, 0, 24, 0, 0), fault(api.Unsupported, 8)},
		{longHead(40, 1, -16385, 0, 24, 0, 0), fault(api.Unsupported, 8)},
		{longHead(40, 1, -1<<31, 1, 24, 0, 0), fault(api.Unsupported, 8)},
		{longHead(124, 1, 1<<31-1, 1, 24, 0, 0), fault(api.Unsupported, 8)},
		{longHead(40, 1, 1, 0, 3, 0, 0), fault(api.Malformed, 12)},
		{longHead(40, 1, 1, 3, 3, 9, 0), fault(api.Malformed, 12)},
		{longHead(40, 1, 1, 1, 0, 9, 0), fault(api.Unsupported, 14)},
		{longHead(40, 1, 1, 1, 2, 9, 0), fault(api.Unsupported, 14)},
		{longHead(40, 1, 1, 1, 64, 0, 0), fault(api.Unsupported, 14)},
		{longHead(40, 1, -1, 1, 8, 4, 999), fault(api.Unsupported, 16)},
		{longHead(56, 1, 1, 1, 8, 1<<32-1, 0), fault(api.Unsupported, 16)},
		{longHead(40, 1, 1, 1, 4, 1, 0), fault(api.Malformed, 16)},
		{longHead(40, 1, -1, 1, 8, 2, 999), fault(api.Malformed, 16)},
		{longHead(40, 1, 1, 1, 24, 1, 0), fault(api.Malformed, 16)},
		{longHead(40, 1, 1, 1, 24, 3, 0), fault(api.Malformed, 16)},
		{longHead(40, 1, 1, 1, 8, 3, 0), fault(api.Malformed, 16)},
		{longHead(40, 1, -1, 1, 8, 1, 999), fault(api.Malformed, 8)},
		{longHead(40, 1, -1, 1, 4, 2, 0), fault(api.Malformed, 8)},
		{longHead(40, 1, 1, 1, 1, 0, 3), fault(api.Malformed, 32)},
		{longHead(40, 1, 1, 1, 4, 2, 17), fault(api.Malformed, 32)},
		{longHead(40, 1, 1, 1, 8, 1, 257), fault(api.Malformed, 32)},
		{longHead(40, 1, 1, 1, 24, 0, 257), fault(api.Malformed, 32)},
		{longHead(40, 1, 1, 1, 24, 0, 1<<32-1), fault(api.Malformed, 32)},
		{longHead(40, 1, 1, 1, 16, 3, 257)[:40], fault(api.Malformed, 32)},
		{longHead(40, 1, 1, 1, 16, 3, 256, 5)[:51], fault(api.Truncated, 51)},
		{longHead(40, 1, 1, 1, 16, 3, 0, 5, 5, 5), fault(api.Malformed, 40)},
		{longHead(40, 1, 1, 1, 16, 3, 0, 1, 1, 5), fault(api.Malformed, 44)},
		{longHead(40, 1, 1, 1, 16, 3, 0, 1, 2, 65536), fault(api.Malformed, 48)},
		{longHead(52, 1, 1, 1, 16, 3, 0, 65536, 2, 1), fault(api.Malformed, 40)},
		{longHead(52, 1, 1, 1, 32, 3, 0, 1, 2, 3), fault(api.Malformed, 48)},
		{longHead(56, 1, 1, 1, 32, 3, 0, 1, 2, 4, 9), fault(api.Malformed, 52)},
		{longHead(108, 1, 1, 1, 32, 3, 0, 1, 2, 4, 4), fault(api.Malformed, 52)},
		{longHead(124, 1, 1, 1, 16, 3, 0, 1, 2, 4, 1<<31), fault(api.Malformed, 52)},
	}
	for _, x := range l {
		if h, f := Read(source(t, 3, x.s), api.BMP); h != (Head{}) || f != x.f {
			t.Errorf("%q: %+v, %+v, not %+v", x.s, h, f, x.f)
		}
		held(t, x.s)
	}
}

// P20.1: all sizes that four bytes may tell about those that there are, with any number of bytes behind them.
func TestSizes(t *testing.T) {
	known := []int{12, 16, 40, 52, 56, 64, 108, 124}
	sizes := []int{1 << 8, 1<<8 + 40, 1<<16 + 40, 1<<24 + 40, 1<<31 + 40, 1<<31 - 1, 1 << 31, 1<<32 - 1, 1<<32 - 40}
	for size := range 300 {
		sizes = append(sizes, size)
	}
	body := longHead(124, 3, 2, 1, 24, 0, 0)[4:]
	for _, size := range sizes {
		b := binary.LittleEndian.AppendUint32(nil, uint32(size))
		for n := range len(body) + 1 {
			held(t, string(b)+body[:n])
		}
		if Known(size) != slices.Contains(known, size) {
			t.Errorf("%d: %t", size, Known(size))
		}
	}
	for size := -70000; size < 70000; size++ {
		if Known(size) != slices.Contains(known, size) {
			t.Errorf("%d: %t", size, Known(size))
		}
	}
	for _, size := range []int{math.MinInt, math.MinInt + 40, math.MaxInt, 1<<32 + 40, -1<<32 + 12} {
		if Known(size) {
			t.Errorf("%d is", size)
		}
	}
}

// P20.1: heads that are cut off anywhere, also by a window's end.
func TestCut(t *testing.T) {
	for s := range right() {
		for n := range s {
			held(t, s[:n])
			x := source(t, 3, "ahead"+s+"behind")
			w, _ := x.Window(5, n)
			if h, f := Read(w, api.BMP); h != (Head{}) || f != fault(api.Truncated, 5+n) {
				t.Errorf("%q, %d bytes: %+v, %+v", s, n, h, f)
			}
		}
	}
}

// P20.1: by each number of steps: what isn't read of a head that is right is Spent, of the format that was told; what was read is told first.
func TestSpent(t *testing.T) {
	for s := range right() {
		readings := []int{0, 4}
		if s[0] == 40 && len(s) == 52 {
			readings = []int{0, 4, 40}
		}
		for n, at := range readings {
			for _, format := range []int{api.BMP, api.ICO, api.Unknown, -7, math.MaxInt} {
				x := source(t, n, "xyz"+s)
				x.Seek(3)
				if h, f := Read(x, format); h != (Head{}) || f != (api.Fault{Kind: api.Spent, Format: format, At: 3 + at}) {
					t.Errorf("%q, %d steps: %+v, %+v", s, n, h, f)
				}
			}
		}
		if _, f := Read(source(t, len(readings), s), api.BMP); f != (api.Fault{}) {
			t.Errorf("%q, %d steps: %+v", s, len(readings), f)
		}
	}
	for s, f := range map[string]api.Fault{
		"\x10\x00\x00\x00":                    fault(api.Unsupported, 0),
		"\x11\x00\x00\x00":                    fault(api.Malformed, 0),
		"\x10\x00":                            fault(api.Truncated, 2),
		"\x28\x00\x00\x00":                    fault(api.Spent, 4),
		longHead(40, 0, 1, 1, 24, 0, 0):       fault(api.Spent, 4),
		longHead(40, 1, 1, 1, 16, 3, 257):     fault(api.Spent, 4),
		longHead(56, 1, 1, 1, 16, 3, 0, 5, 5): fault(api.Spent, 4),
	} {
		if h, g := Read(source(t, 1, s), api.BMP); h != (Head{}) || g != f {
			t.Errorf("%q: %+v, %+v, not %+v", s, h, g, f)
		}
	}
	if _, f := Read(source(t, 2, longHead(40, 1, 1, 1, 16, 3, 257)), api.BMP); f != fault(api.Malformed, 32) {
		t.Errorf("%+v", f)
	}
}

// P20.1: each byte of a head made each other one.
func TestEachByte(t *testing.T) {
	for s := range right() {
		for at := range s {
			for v := range 256 {
				held(t, with(s, at, v))
			}
		}
	}
}

// P20.1: any bytes of a head made others, and any bytes behind a size.
func TestAnyBytes(t *testing.T) {
	rand := random()
	for s := range right() {
		for range 5000 {
			x := s
			for range 1 + rand(4) {
				x = with(x, rand(len(x)), []int{0, 1, 255, rand(256)}[rand(4)])
			}
			held(t, x)
		}
	}
	for range 100000 {
		b := make([]byte, rand(140))
		for i := range b {
			b[i] = byte(rand(256) * rand(2))
		}
		if len(b) > 3 {
			copy(b, []byte{byte(allSizes[rand(len(allSizes))]), 0, 0, 0})
		}
		held(t, string(b))
	}
}

// P20.1: all sides about their ends, with and without a sign.
func TestSides(t *testing.T) {
	var l []int
	for _, n := range []int{0, 255, 256, 16384, 32768, 65535, 65536, 1 << 24, 1<<31 - 1} {
		for k := -3; k <= 3; k++ {
			l = append(l, n+k, -n+k)
		}
	}
	for _, width := range l {
		for _, height := range l {
			held(t, shortHead(width, height, 1, 24))
			for _, size := range longSizes {
				held(t, longHead(size, width, height, 1, 24, 0, 0))
				held(t, longHead(size, width, height, 1, 8, 1, 0))
			}
		}
	}
}

// P20.1: all bits and methods, with all numbers of colours about the greatest ones.
func TestColors(t *testing.T) {
	for bits := range 70 {
		held(t, shortHead(1, 1, 1, bits))
		for _, size := range longSizes {
			for method := range 6 {
				for _, colors := range []int{0, 1, 2, 3, 15, 16, 17, 255, 256, 257, 65536, 1 << 16, 1<<31 - 1, 1 << 31, 1<<32 - 1} {
					held(t, longHead(size, 1, 1, 1, bits, method, colors, 1, 2, 4, 8))
					held(t, longHead(size, 1, -1, 1, bits, method, colors, 1, 2, 4, 8))
				}
			}
		}
	}
}

// P20.1: any four masks, of 16 and 32 bits.
func TestMasks(t *testing.T) {
	some := []int{0, 1, 2, 3, 5, 0x1f, 0x3e0, 0x7e0, 0x7c00, 0xf800, 0x8000, 0xffff, 0x10000, 0xff0000, 0x18000, 0xff000000, 1 << 31, 1<<31 + 1, 0x80000000, 0xffffffff}
	for _, bits := range []int{16, 32} {
		for _, r := range some {
			for _, g := range some {
				for _, b := range some {
					held(t, longHead(40, 1, 1, 1, bits, 3, 0, r, g, b))
					held(t, longHead(52, 1, 1, 1, bits, 3, 0, r, g, b)+"\x01\x00\x00\x00")
					for _, a := range some {
						held(t, longHead(56, 1, 1, 1, bits, 3, 0, r, g, b, a))
					}
				}
			}
		}
	}
}

// P20.1: a colour's bytes, and a row's, of all bits and of all widths.
func TestEntryStride(t *testing.T) {
	for s, h := range right() {
		want := 4
		if s[0] == 12 {
			want = 3
		}
		if h.Entry() != want {
			t.Errorf("%+v: a colour has %d bytes", h, h.Entry())
		}
	}
	for _, bits := range []int{1, 4, 8, 16, 24, 32} {
		want := 0
		for width := 1; width <= 16384; width++ {
			h := Head{Size: 40, Width: width, Height: 1, Depth: bits}
			for want*8 < width*bits {
				want += 4
			}
			if h.Stride() != want {
				t.Fatalf("%d of %d bits: %d bytes, not %d", width, bits, h.Stride(), want)
			}
		}
	}
	// Of what no head has no more is promised than that it ends.
	for _, n := range []int{math.MinInt, -1, 0, math.MaxInt} {
		h := Head{Size: n, Width: n, Height: n, Depth: n}
		h.Entry()
		h.Stride()
	}
}

// isTold tells by the chapter's words whether 40 bytes, or 52, may tell a head.
func isTold(h Head) bool {
	side := func(n int) bool { return n >= 1 && n <= 16384 }
	if h.Size != 40 || !side(h.Width) || !side(h.Height) {
		return false
	}
	least, most, masks := 0, 256, mask.Set{}
	switch h.Depth {
	case 1:
		least, most = 1, 2
	case 4:
		least, most = 1, 16
	case 8:
		least = 1
	case 16:
		masks = five
	case 24:
	case 32:
		masks = eight
	default:
		return false
	}
	if h.Colors < least || h.Colors > most {
		return false
	}
	switch h.Method {
	case 0:
		return h.Masks == masks
	case 1:
		return h.Depth == 8 && !h.Top && h.Masks == masks
	case 2:
		return h.Depth == 4 && !h.Top && h.Masks == masks
	case 3:
		return h.Depth >= 16 && h.Depth != 24 && areMasks(h.Masks, h.Depth)
	}
	return false
}

// areMasks tells whether three masks are places of so many bits, none in two of them, and the fourth has none.
func areMasks(s mask.Set, depth int) bool {
	seen := map[int]bool{}
	for _, m := range []mask.Mask{s.R, s.G, s.B} {
		if m.Bits == 0 && m.Shift == 0 {
			continue
		}
		if m.Bits < 1 || m.Bits > 32 || m.Shift < 0 || m.Shift > 32 || m.Shift+m.Bits > depth {
			return false
		}
		for i := range m.Bits {
			if seen[m.Shift+i] {
				return false
			}
			seen[m.Shift+i] = true
		}
	}
	return s.A == mask.Mask{}
}

// clean is a head's bytes with 0 where they aren't looked at, and where all colours that there may be are told.
func clean(s string) string {
	b := []byte(s)
	clear(b[20:32])
	clear(b[36:40])
	if n := binary.LittleEndian.Uint32(b[32:]); s[14] <= 8 && n == 1<<s[14] {
		clear(b[32:36])
	}
	return string(b)
}

// bytesOrNone holds what Bytes tells of any head against the chapter's words, and what Read tells of that.
func bytesOrNone(t *testing.T, h Head) {
	t.Helper()
	s, e := Bytes(h)
	if !isTold(h) {
		if s != "" || e != api.ErrForm {
			t.Fatalf("%+v: %q, %d", h, s, e)
		}
		return
	}
	n := 40
	if h.Method == 3 {
		n = 52
	}
	if e != api.OK || len(s) != n || clean(s) != s {
		t.Fatalf("%+v: %q, %d", h, s, e)
	}
	h.From = 0
	if got, f := Read(source(t, 3, s), api.BMP); got != h || f != (api.Fault{}) {
		t.Fatalf("%+v: %q is %+v, %+v", h, s, got, f)
	}
	held(t, s)
}

// P20.1, P20.2: the bytes of each head that was read are those that it was read of, as far as they are looked at; where it began doesn't count.
func TestBytes(t *testing.T) {
	for s, h := range right() {
		bytesOrNone(t, h)
		if h.Size != 40 {
			continue
		}
		for _, from := range []int{0, 1, 14, -1, math.MinInt, math.MaxInt} {
			h.From = from
			if b, e := Bytes(h); b != clean(s) || e != api.OK {
				t.Errorf("%+v: %q, %d, not %q", h, b, e, clean(s))
			}
		}
	}
}

// P20.1: colours are told as they are, but 0 of all that there may be.
func TestBytesOfColors(t *testing.T) {
	for _, bits := range []int{1, 4, 8, 16, 24, 32} {
		set, _ := mask.Common(bits)
		for n := -300; n < 600; n++ {
			h := Head{Size: 40, Width: 3, Height: 4, Depth: bits, Colors: n, Masks: set}
			bytesOrNone(t, h)
			if !isTold(h) {
				continue
			}
			b, _ := Bytes(h)
			want := n
			if bits <= 8 && n == 1<<bits {
				want = 0
			}
			if got := int(binary.LittleEndian.Uint32([]byte(b)[32:])); got != want {
				t.Errorf("%d bits, %d colours: %d are told", bits, n, got)
			}
		}
	}
}

// numbersIn are all fields of a head that are numbers, those of its masks, too.
func numbersIn(h *Head) []*int {
	l := []*int{&h.Size, &h.Width, &h.Height, &h.Depth, &h.Method, &h.Colors, &h.From}
	for _, m := range []*mask.Mask{&h.Masks.R, &h.Masks.G, &h.Masks.B, &h.Masks.A} {
		l = append(l, &m.Shift, &m.Bits)
	}
	return l
}

// P20.1, P20.2: each field of a head made any other number, also such as have right lowest bytes.
func TestBytesOrNone(t *testing.T) {
	bytesOrNone(t, Head{})
	far := []int{math.MinInt, -1 << 32, -1 << 31, -65536, -16384, 16384, 65536, 1 << 20, 1 << 31, 1 << 32, 1 << 62, math.MaxInt}
	for _, h := range right() {
		for i := range numbersIn(&h) {
			x := h
			field := numbersIn(&x)[i]
			was := *field
			for n := -300; n < 300; n++ {
				*field = n
				bytesOrNone(t, x)
			}
			for _, n := range far {
				for k := range 40 {
					*field = n + k
					bytesOrNone(t, x)
					*field = n - k
					bytesOrNone(t, x)
				}
				*field = was + n
				bytesOrNone(t, x)
			}
		}
		h.Top = !h.Top
		bytesOrNone(t, h)
	}
}

// P20.1, P20.2: any two fields made any other numbers.
func TestBytesOfTwo(t *testing.T) {
	some := []int{math.MinInt, -8, -1, 0, 1, 2, 3, 4, 5, 8, 11, 12, 16, 24, 32, 40, 256, 257, 16384, 16385, 65536 + 8, 1<<32 + 1, math.MaxInt}
	for _, h := range right() {
		for _, h.Top = range []bool{false, true} {
			for i := range numbersIn(&h) {
				for k := range i {
					x := h
					one, other := numbersIn(&x)[i], numbersIn(&x)[k]
					for _, *one = range some {
						for _, *other = range some {
							bytesOrNone(t, x)
						}
					}
				}
			}
		}
	}
}
