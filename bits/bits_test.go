package bits

import (
	"math"
	"testing"

	"tintype/api"
	"tintype/ledger"
	"tintype/src"
)

// source goes over all of s, and may do so many steps.
func source(t *testing.T, steps int, s string) *src.Src {
	t.Helper()
	x, e := src.New(ledger.New(api.Budget{MaxWork: steps}), s)
	if e != api.OK {
		t.Fatal(e)
	}
	return x
}

// made is a reader over a source.
func made(t *testing.T, x *src.Src, low bool) *Bits {
	t.Helper()
	b, e := New(x, low)
	if b == nil || e != api.OK {
		t.Fatalf("no reader: %d", e)
	}
	return b
}

// over is a reader over all of s, that may do any steps, with its source.
func over(t *testing.T, s string, low bool) (*Bits, *src.Src) {
	t.Helper()
	x := source(t, math.MaxInt, s)
	return made(t, x, low), x
}

func expectRead(t *testing.T, b *Bits, n, want int) {
	t.Helper()
	if v, ok := b.Read(n); v != want || !ok {
		t.Errorf("Read(%d) is %#x, %t, not %#x", n, v, ok, want)
	}
}

func expectNone(t *testing.T, b *Bits, n int) {
	t.Helper()
	if v, ok := b.Read(n); v != 0 || ok {
		t.Errorf("Read(%d) is %#x, %t, not to be told", n, v, ok)
	}
}

// expect holds how many bits are left, the source's place, and its steps.
func expect(t *testing.T, b *Bits, x *src.Src, left, at, steps int) {
	t.Helper()
	if b.Left() != left || x.At() != at || x.Ledger().Steps() != steps {
		t.Errorf("%d bits are left, the place %d, %d steps, not %d, %d, %d", b.Left(), x.At(), x.Ledger().Steps(), left, at, steps)
	}
}

// orders are both.
var orders = []bool{false, true}

// flat is the bits of bytes, each 0 or 1, in the order in which they come.
func flat(s string, low bool) []int {
	var l []int
	for _, v := range []byte(s) {
		for i := range 8 {
			if low {
				l = append(l, int(v)>>i&1)
			} else {
				l = append(l, int(v)>>(7-i)&1)
			}
		}
	}
	return l
}

// numberOf is that of bits, in the order in which they come.
func numberOf(l []int, low bool) int {
	v := 0
	for i, bit := range l {
		if low {
			v += bit << i
		} else {
			v = 2*v + bit
		}
	}
	return v
}

// random tells numbers below n, of a seed of its own.
func random() func(n int) int {
	seed := uint32(1)
	return func(n int) int {
		seed = seed*1664525 + 1013904223
		return int(seed>>8) % n
	}
}

func someBytes(next func(n int) int, n int) string {
	b := make([]byte, n)
	for i := range b {
		b[i] = byte(next(256))
	}
	return string(b)
}

// P6.1: the example of the chapter.
func TestExample(t *testing.T) {
	b, x := over(t, "\x1e", false)
	expectRead(t, b, 4, 1)
	expectRead(t, b, 4, 14)
	expect(t, b, x, 0, 1, 1)
	b, x = over(t, "\x1e", true)
	expectRead(t, b, 4, 14)
	expectRead(t, b, 4, 1)
	expect(t, b, x, 0, 1, 1)
}

// P6.1: New of a source, and of none; nothing is read by it.
func TestNew(t *testing.T) {
	for _, low := range orders {
		if b, e := New(nil, low); b != nil || e != api.ErrArg {
			t.Errorf("of none: %v, %d", b, e)
		}
		b, x := over(t, "ab", low)
		expect(t, b, x, 0, 0, 0)
		x = source(t, 0, "")
		b = made(t, x, low)
		expect(t, b, x, 0, 0, 0)
		if x.Ledger().Broken() {
			t.Error("New asked for a step")
		}
	}
}

// P6.1: numbers by hand, over the ends of bytes.
func TestByHand(t *testing.T) {
	cases := []struct {
		name   string
		bytes  string
		low    bool
		counts []int
		want   []int
	}{
		{"bits, the highest first", "\xa1", false, []int{1, 1, 1, 1, 1, 1, 1, 1}, []int{1, 0, 1, 0, 0, 0, 0, 1}},
		{"bits, the lowest first", "\xa1", true, []int{1, 1, 1, 1, 1, 1, 1, 1}, []int{1, 0, 0, 0, 0, 1, 0, 1}},
		{"bytes, the highest first", "\x12\x34", false, []int{8, 8}, []int{0x12, 0x34}},
		{"bytes, the lowest first", "\x12\x34", true, []int{8, 8}, []int{0x12, 0x34}},
		{"twelve bits, the highest first", "\x12\x34\x56", false, []int{12, 12}, []int{0x123, 0x456}},
		{"twelve bits, the lowest first", "\x12\x34\x56", true, []int{12, 12}, []int{0x412, 0x563}},
		{"32 bits, the highest first", "\x12\x34\x56\x78", false, []int{32}, []int{0x12345678}},
		{"32 bits, the lowest first", "\x12\x34\x56\x78", true, []int{32}, []int{0x78563412}},
		{"32 bits, all 1", "\xff\xff\xff\xff", false, []int{32}, []int{1<<32 - 1}},
		{"32 bits, all 1, the lowest first", "\xff\xff\xff\xff", true, []int{32}, []int{1<<32 - 1}},
		{"the first of 32 bits", "\x80\x00\x00\x00", false, []int{32}, []int{1 << 31}},
		{"the last of 32 bits, the lowest first", "\x00\x00\x00\x80", true, []int{32}, []int{1 << 31}},
		{"32 bits of five bytes", "\x01\x00\x00\x00\x80", false, []int{7, 32, 1}, []int{0, 1<<31 | 1<<6, 0}},
		{"32 bits of five bytes, the lowest first", "\x80\x00\x00\x00\x01", true, []int{7, 32, 1}, []int{0, 1<<25 | 1, 0}},
		{"nothing between", "\xf0", false, []int{0, 2, 0, 4, 0, 2, 0}, []int{0, 3, 0, 12, 0, 0, 0}},
	}
	for _, c := range cases {
		b, _ := over(t, c.bytes, c.low)
		for i, n := range c.counts {
			if v, ok := b.Read(n); v != c.want[i] || !ok {
				t.Errorf("%s: the number %d is %#x, %t, not %#x", c.name, i, v, ok, c.want[i])
			}
		}
	}
}

// P6.1, P6.2: a number of any count behind any count of bits, in both orders; only the bytes that it has bits of are taken.
func TestEachCount(t *testing.T) {
	next := random()
	for _, low := range orders {
		for ahead := range 33 {
			for n := range 33 {
				s := someBytes(next, 10)
				all := flat(s, low)
				b, x := over(t, s, low)
				expectRead(t, b, ahead, numberOf(all[:ahead], low))
				expectRead(t, b, n, numberOf(all[ahead:ahead+n], low))
				taken := (ahead + n + 7) / 8
				expect(t, b, x, 8*taken-ahead-n, taken, taken)
			}
		}
	}
}

// P6.2: bits that are read are those of the bytes, in order, whatever the counts are.
func TestInOrder(t *testing.T) {
	next := random()
	for _, low := range orders {
		for round := range 300 {
			s := someBytes(next, 1+next(40))
			all, read := flat(s, low), 0
			most := 1 + next(33)
			b, x := over(t, s, low)
			for read < len(all) {
				n := min(next(most+1), len(all)-read, 32)
				expectRead(t, b, n, numberOf(all[read:read+n], low))
				read += n
				taken := (read + 7) / 8
				expect(t, b, x, 8*taken-read, taken, taken)
			}
			expectNone(t, b, 1)
			if t.Failed() {
				t.Fatalf("low %t, round %d", low, round)
			}
		}
	}
}

// P6.1: of a wrong count nothing is read.
func TestWrongCounts(t *testing.T) {
	for _, low := range orders {
		for _, n := range []int{math.MinInt, -1 << 32, -33, -32, -8, -1, 33, 34, 40, 63, 64, 256, 1 << 32, 1<<32 + 1, math.MaxInt} {
			b, x := over(t, "\x81\x42\x24\x18\xff\x00\x7e\xe7\x3c\xc3", low)
			expectNone(t, b, n)
			expect(t, b, x, 0, 0, 0)
			first := flat("\x81", low)
			expectRead(t, b, 3, numberOf(first[:3], low))
			expectNone(t, b, n)
			expect(t, b, x, 5, 1, 1)
			expectRead(t, b, 5, numberOf(first[3:], low))
		}
	}
}

// P6.1: no bits are always there, also where no byte is, and none is taken for them.
func TestNoBits(t *testing.T) {
	for _, low := range orders {
		x := source(t, 0, "")
		b := made(t, x, low)
		expectRead(t, b, 0, 0)
		expect(t, b, x, 0, 0, 0)
		if x.Ledger().Broken() {
			t.Error("no bits asked for a step")
		}
		b, x = over(t, "a", low)
		expectRead(t, b, 8, 'a')
		expectRead(t, b, 0, 0)
		expect(t, b, x, 0, 1, 1)
		expectNone(t, b, 1)
		expectRead(t, b, 0, 0)
	}
}

// P6.1: a byte that isn't there: what was read ahead of it is gone.
func TestTooFew(t *testing.T) {
	const all = "\x1e\xa5\x3c"
	for _, low := range orders {
		for bytes := range len(all) + 1 {
			for ahead := range min(8*bytes, 32) + 1 {
				for n := 8*bytes - ahead + 1; n <= 32; n++ {
					b, x := over(t, all[:bytes], low)
					expectRead(t, b, ahead, numberOf(flat(all[:bytes], low)[:ahead], low))
					expectNone(t, b, n)
					expect(t, b, x, 0, bytes, bytes+1)
					if f := x.Fault(api.PCX); f != (api.Fault{Kind: api.Truncated, Format: api.PCX, At: bytes}) {
						t.Errorf("%+v", f)
					}
					if k := b.Align(); k != 0 {
						t.Errorf("%d bits are left behind the end", k)
					}
					expectNone(t, b, 1)
					expect(t, b, x, 0, bytes, bytes+2)
				}
			}
		}
	}
}

// P6.1: a reader reads on where its source has bytes once more.
func TestReadsOn(t *testing.T) {
	b, x := over(t, "\x1e\xa5", false)
	expectRead(t, b, 4, 1)
	expectNone(t, b, 13)
	expect(t, b, x, 0, 2, 3)
	x.Seek(1)
	expectRead(t, b, 4, 10)
	expect(t, b, x, 4, 2, 4)
}

// P6.1: a step that is refused is a byte that isn't there.
func TestSteps(t *testing.T) {
	for _, low := range orders {
		for steps := range 4 {
			x := source(t, steps, "\x1e\xa5\x3c\x81\x42")
			b := made(t, x, low)
			expectNone(t, b, 8*steps+1)
			expect(t, b, x, 0, steps, steps)
			if !x.Ledger().Broken() || x.Fault(api.BMP) != (api.Fault{Kind: api.Spent, Format: api.BMP, At: steps}) {
				t.Errorf("%d steps: %+v", steps, x.Fault(api.BMP))
			}
			expectNone(t, b, 1)
			expectRead(t, b, 0, 0)
			expect(t, b, x, 0, steps, steps)
		}
	}
}

// P6.1: bits of a byte that was taken are there without a step.
func TestBitsAheadOfRefusal(t *testing.T) {
	for _, low := range orders {
		x := source(t, 1, "\x5a\xff")
		b := made(t, x, low)
		all := flat("\x5a", low)
		expectRead(t, b, 3, numberOf(all[:3], low))
		if _, ok := x.U8(); ok {
			t.Error("a second step")
		}
		expect(t, b, x, 5, 1, 1)
		expectRead(t, b, 5, numberOf(all[3:], low))
		expectNone(t, b, 1)
	}
}

// P6.1: Align lets the bits of the byte that was taken last go, and tells how many they were.
func TestAlign(t *testing.T) {
	const all = "\x1e\xa5\x3c\x81\x42\xe7"
	for _, low := range orders {
		for n := range 33 {
			b, x := over(t, all, low)
			expectRead(t, b, n, numberOf(flat(all, low)[:n], low))
			taken := (n + 7) / 8
			left := 8*taken - n
			if b.Left() != left || b.Left() != left {
				t.Errorf("%d bits: %d are left", n, b.Left())
			}
			if k := b.Align(); k != left {
				t.Errorf("%d bits: %d are let go, not %d", n, k, left)
			}
			expect(t, b, x, 0, taken, taken)
			if k := b.Align(); k != 0 {
				t.Errorf("%d bits: %d are let go once more", n, k)
			}
			expectRead(t, b, 8, int(all[taken]))
			expect(t, b, x, 0, taken+1, taken+1)
		}
	}
}

// P6.1: bytes are those of the source's place, wherever that is: another reading goes between two of them, and a window ends.
func TestSource(t *testing.T) {
	b, x := over(t, "\x12\x34\x56\x78\x9a", false)
	x.Seek(1)
	expectRead(t, b, 4, 3)
	if v, ok := x.U8(); v != 0x56 || !ok {
		t.Error(v, ok)
	}
	expectRead(t, b, 8, 0x47)
	x.Seek(0)
	expectRead(t, b, 12, 0x812)
	expect(t, b, x, 0, 1, 4)
	w, _ := x.Window(2, 2)
	b = made(t, w, true)
	expectRead(t, b, 12, 0x856)
	expectRead(t, b, 4, 7)
	expectNone(t, b, 1)
	expect(t, b, w, 0, 4, 7)
	if w.Fault(api.ICO) != (api.Fault{Kind: api.Truncated, Format: api.ICO, At: 4}) {
		t.Errorf("%+v", w.Fault(api.ICO))
	}
}

// P6.1: two readers of one source take its bytes in turn, each with bits of its own.
func TestTwoReaders(t *testing.T) {
	high, x := over(t, "\x12\x34\x56", false)
	low := made(t, x, true)
	expectRead(t, high, 4, 1)
	expectRead(t, low, 4, 4)
	expect(t, high, x, 4, 2, 2)
	expect(t, low, x, 4, 2, 2)
	expectRead(t, high, 8, 0x25)
	expectRead(t, low, 4, 3)
	expectRead(t, high, 4, 6)
	expectNone(t, low, 1)
}

// P6.1, P6.2: behind any calls a reader tells the bits as they stand in the bytes.
func TestAnyCalls(t *testing.T) {
	next := random()
	for round := range 600 {
		low := next(2) == 1
		s := someBytes(next, next(30))
		x := source(t, math.MaxInt, s)
		b := made(t, x, low)
		all, read, steps := flat(s, low), 0, 0
		for turn := range 40 {
			switch n := next(37) - 2; {
			case next(8) == 0:
				left := (8 - read%8) % 8
				if k := b.Align(); k != left {
					t.Fatalf("round %d, turn %d: %d are let go, not %d", round, turn, k, left)
				}
				read += left
			case n < 0 || n > 32:
				expectNone(t, b, n)
			case n > len(all)-read:
				expectNone(t, b, n)
				steps += len(s) - (read+7)/8 + 1
				read = len(all)
			default:
				expectRead(t, b, n, numberOf(all[read:read+n], low))
				steps += (read+n+7)/8 - (read+7)/8
				read += n
			}
			expect(t, b, x, (8-read%8)%8, (read+7)/8, steps)
			if t.Failed() {
				t.Fatalf("round %d, turn %d", round, turn)
			}
		}
	}
}
