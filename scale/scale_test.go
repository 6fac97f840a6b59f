package scale

import (
	"math"
	"math/big"
	"testing"

	"tintype/api"
)

// most32 is the greatest value that a sample can have.
const most32 = 1<<32 - 1

// outside are numbers that are no greatest value.
var outside = []int{math.MinInt, math.MinInt + 1, -most32, -256, -255, -2, -1, 0, most32 + 1, most32 + 2, 1 << 33, 1 << 40, 1 << 62, math.MaxInt - 1, math.MaxInt}

// random tells numbers below n, of a seed of its own.
func random() func(n int) int {
	seed := uint64(1)
	return func(n int) int {
		seed = seed*6364136223846793005 + 1442695040888963407
		return int(seed>>31) % n
	}
}

// nearest is the number from 0 to 255 nearest to v times 255, divided by m, of two as near the greater one; each of them is tried.
func nearest(v, m int) uint8 {
	best, least := 0, -1
	for k := range 256 {
		// Times m the distance is a whole number.
		d := v*255 - k*m
		if d < 0 {
			d = -d
		}
		if least < 0 || d <= least {
			best, least = k, d
		}
	}
	return uint8(best)
}

// quotient is the chapter's, by numbers of any size.
func quotient(v, m int) uint8 {
	n := big.NewInt(2)
	n.Mul(n, big.NewInt(int64(v))).Mul(n, big.NewInt(255)).Add(n, big.NewInt(int64(m)))
	d := big.NewInt(2)
	d.Mul(d, big.NewInt(int64(m)))
	return uint8(n.Div(n, d).Int64())
}

func expectMax(t *testing.T, v, m int, want uint8) {
	t.Helper()
	if got, ok := Max(v, m); got != want || !ok {
		t.Errorf("Max(%d, %d) = %d, %t, not %d", v, m, got, ok, want)
	}
}

func expectBits(t *testing.T, v, n int, want uint8) {
	t.Helper()
	if got, ok := Bits(v, n); got != want || !ok {
		t.Errorf("Bits(%d, %d) = %d, %t, not %d", v, n, got, ok, want)
	}
}

func expectLeast(t *testing.T, v uint8, m, want int, there bool) {
	t.Helper()
	if got, ok := Least(v, m); got != want || ok != there {
		t.Errorf("Least(%d, %d) = %d, %t, not %d, %t", v, m, got, ok, want, there)
	}
}

// made is the scaler of a greatest value.
func made(t *testing.T, m int) *Scaler {
	t.Helper()
	s, e := New(m)
	if s == nil || e != api.OK {
		t.Fatalf("no scaler of %d: %d", m, e)
	}
	return s
}

func expectOf(t *testing.T, s *Scaler, v int, want uint8) {
	t.Helper()
	if got, ok := s.Of(v); got != want || !ok {
		t.Errorf("of %d: Of(%d) = %d, %t, not %d", s.Most(), v, got, ok, want)
	}
}

func expectNotOf(t *testing.T, s *Scaler, v int) {
	t.Helper()
	if got, ok := s.Of(v); got != 0 || ok {
		t.Errorf("of %d: Of(%d) = %d, %t, not to be told", s.Most(), v, got, ok)
	}
}

// P8.1: the examples of the chapter.
func TestExample(t *testing.T) {
	expectBits(t, 1, 1, 255)
	expectBits(t, 16, 5, 132)
	expectMax(t, 1, 2, 128)
}

// P8.1: samples by hand.
func TestByHand(t *testing.T) {
	cases := []struct {
		v, m int
		want uint8
	}{
		{0, 1, 0}, {1, 1, 255},
		{0, 2, 0}, {1, 2, 128}, {2, 2, 255},
		{1, 3, 85}, {2, 3, 170}, {3, 3, 255},
		{1, 4, 64}, {3, 4, 191}, // 63.75, 191.25
		{1, 6, 43}, {3, 6, 128}, {5, 6, 213}, // 42.5, 127.5, 212.5
		{1, 15, 17}, {7, 15, 119},
		{1, 31, 8}, {30, 31, 247},
		{1, 63, 4}, {32, 63, 130},
		{1, 254, 1}, {127, 254, 128}, {253, 254, 254},
		{1, 510, 1}, {3, 510, 2}, {509, 510, 255}, // 0.5, 1.5, 254.5
		{1, 511, 0}, {2, 511, 1}, {510, 511, 255},
		{1, 1023, 0}, {2, 1023, 0}, {3, 1023, 1},
		{128, 65535, 0}, {129, 65535, 1}, {385, 65535, 1}, {386, 65535, 2}, {65535, 65535, 255},
		{65406, 65535, 254}, {65407, 65535, 255},
		{1 << 31, most32, 128}, {1<<31 - 1, most32, 127},
		{most32 - 1, most32, 255}, {most32, most32, 255}, {most32 / 255, most32, 1}, {1, most32, 0},
	}
	for _, c := range cases {
		expectMax(t, c.v, c.m, c.want)
	}
}

// P8.1: the nearest number, of two as near the greater one, of all samples of small greatest values.
func TestNearest(t *testing.T) {
	for m := 1; m <= 520; m++ {
		for v := range m + 1 {
			expectMax(t, v, m, nearest(v, m))
		}
	}
}

// P8.1: the quotient that the chapter names, of greatest values up to the greatest.
func TestQuotient(t *testing.T) {
	next := random()
	for n := range 20000 {
		m := 1 + next(1<<(1+n%32))
		m = min(m, most32)
		v := next(m + 1)
		expectMax(t, v, m, quotient(v, m))
	}
	for _, m := range []int{1, 2, 254, 255, 256, 257, 509, 510, 511, 65534, 65535, 65536, 1<<31 - 1, 1 << 31, most32 - 1, most32} {
		for _, v := range []int{0, 1, m/2 - 1, m / 2, m/2 + 1, m - 1, m} {
			if v >= 0 && v <= m {
				expectMax(t, v, m, quotient(v, m))
			}
		}
	}
}

// P8.1: what isn't a sample, or no greatest value.
func TestMaxOfNone(t *testing.T) {
	for _, m := range outside {
		for _, v := range append([]int{1, 255, m, m - 1}, outside...) {
			if got, ok := Max(v, m); got != 0 || ok {
				t.Errorf("Max(%d, %d) = %d, %t", v, m, got, ok)
			}
		}
	}
	for _, m := range []int{1, 2, 255, 256, 65535, most32 - 1, most32} {
		for _, v := range []int{math.MinInt, -m - 1, -m, -2, -1, m + 1, m + 2, 2 * m, m + 1<<32, 1 << 62, math.MaxInt - 1, math.MaxInt} {
			if got, ok := Max(v, m); v != m && (got != 0 || ok) {
				t.Errorf("Max(%d, %d) = %d, %t", v, m, got, ok)
			}
		}
	}
}

// P8.1: samples of bits are those of the greatest value 2^n - 1.
func TestBits(t *testing.T) {
	for n := 1; n <= 12; n++ {
		for v := range 1 << n {
			expectBits(t, v, n, nearest(v, 1<<n-1))
		}
	}
	next := random()
	for n := 1; n <= 32; n++ {
		m := 1<<n - 1
		expectBits(t, 0, n, 0)
		expectBits(t, m, n, 255)
		expectBits(t, m-1, n, quotient(m-1, m))
		for range 200 {
			v := next(m + 1)
			expectBits(t, v, n, quotient(v, m))
		}
	}
}

// P8.1: bits that there aren't, and samples that they haven't.
func TestBitsOfNone(t *testing.T) {
	for _, n := range []int{math.MinInt, -64, -32, -1, 0, 33, 34, 62, 63, 64, 65, 96, 1 << 32, 1<<32 + 1, math.MaxInt} {
		for _, v := range []int{math.MinInt, -1, 0, 1, 255, most32, math.MaxInt} {
			if got, ok := Bits(v, n); got != 0 || ok {
				t.Errorf("Bits(%d, %d) = %d, %t", v, n, got, ok)
			}
		}
	}
	for n := 1; n <= 32; n++ {
		for _, v := range []int{math.MinInt, -1 << n, -1, 1 << n, 1<<n + 1, 1 << 33, math.MaxInt} {
			if got, ok := Bits(v, n); got != 0 || ok {
				t.Errorf("Bits(%d, %d) = %d, %t", v, n, got, ok)
			}
		}
	}
}

// P8.1: the least sample of each number, all samples asked one by one.
func TestLeast(t *testing.T) {
	greatest := []int{1023, 1024, 4095, 65534, 65535}
	for m := 1; m <= 600; m++ {
		greatest = append(greatest, m)
	}
	for _, m := range greatest {
		var least [256]int
		var there [256]bool
		for v := range m + 1 {
			k := quotient(v, m)
			if m <= 600 {
				k = nearest(v, m)
			}
			if !there[k] {
				least[k], there[k] = v, true
			}
		}
		for k := range 256 {
			expectLeast(t, uint8(k), m, least[k], there[k])
		}
	}
}

// P8.1: the least sample of greater values: it is that number, and the one ahead of it isn't.
func TestLeastOfGreat(t *testing.T) {
	next := random()
	greatest := []int{1 << 16, 1<<31 - 1, 1 << 31, most32 - 1, most32}
	for n := 17; n <= 32; n++ {
		greatest = append(greatest, 1<<n-1, 1+next(1<<n-1))
	}
	for _, m := range greatest {
		for k := range 256 {
			v, ok := Least(uint8(k), m)
			if !ok || v < 0 || v > m || quotient(v, m) != uint8(k) || v > 0 && quotient(v-1, m) == uint8(k) {
				t.Errorf("Least(%d, %d) = %d, %t", k, m, v, ok)
			}
		}
	}
	expectLeast(t, 255, most32, 4286545791, true)
	expectLeast(t, 1, most32, 8421505, true)
}

// P8.1: no sample is a number, or there is no such greatest value.
func TestLeastOfNone(t *testing.T) {
	for _, m := range outside {
		for _, v := range []uint8{0, 1, 127, 128, 254, 255} {
			expectLeast(t, v, m, 0, false)
		}
	}
	for v := 1; v < 255; v++ {
		expectLeast(t, uint8(v), 1, 0, false)
	}
	expectLeast(t, 127, 2, 0, false)
	expectLeast(t, 129, 2, 0, false)
	expectLeast(t, 127, 254, 0, false)
	expectLeast(t, 128, 254, 127, true)
}

// P8.1: the greatest values of which there is a scaler.
func TestNew(t *testing.T) {
	for _, m := range []int{1, 2, 3, 254, 255, 256, 1023, 65534, 65535} {
		s, e := New(m)
		if s == nil || e != api.OK || s.Most() != m {
			t.Errorf("New(%d) = %v, %d", m, s, e)
		}
	}
	for _, m := range append([]int{65536, 65537, 1<<17 - 1, most32, 1<<32 + 1}, outside...) {
		if s, e := New(m); s != nil || e != api.ErrRange {
			t.Errorf("New(%d) = %v, %d", m, s, e)
		}
	}
}

// P8.1: a scaler tells what Max does, of all samples.
func TestOf(t *testing.T) {
	for _, m := range []int{1, 2, 3, 15, 31, 254, 255, 256, 510, 1000, 65534, 65535} {
		s := made(t, m)
		for v := range m + 1 {
			expectOf(t, s, v, quotient(v, m))
		}
		if s.Most() != m {
			t.Errorf("of %d: now it is %d", m, s.Most())
		}
	}
}

// P8.1: what a scaler isn't told as a sample, also at the first question; what it is told stays.
func TestOfNone(t *testing.T) {
	wrong := []int{math.MinInt, math.MinInt + 1, -65536, -2, -1, 65536, 1 << 32, 1<<32 + 1, 1 << 62, math.MaxInt}
	for _, m := range []int{1, 2, 255, 1000, 65535} {
		for _, first := range append([]int{-m, m + 1, m + 2, 2*m + 1}, wrong...) {
			s := made(t, m)
			expectNotOf(t, s, first)
			expectOf(t, s, m, 255)
			expectNotOf(t, s, first)
			expectOf(t, s, 0, 0)
			expectOf(t, s, m/2, quotient(m/2, m))
		}
	}
}

// P8.1: two scalers don't share anything.
func TestTwoScalers(t *testing.T) {
	one, other := made(t, 2), made(t, 4)
	expectOf(t, one, 1, 128)
	expectOf(t, other, 1, 64)
	expectOf(t, other, 3, 191)
	expectNotOf(t, one, 3)
	expectOf(t, one, 1, 128)
	again := made(t, 2)
	expectOf(t, again, 1, 128)
}

// P8.2: 0 stays 0, the greatest sample becomes 255, a greater sample is never less.
func TestRises(t *testing.T) {
	for _, m := range []int{1, 2, 3, 7, 100, 254, 255, 256, 257, 1000, 40000, 65535, 100000} {
		last := uint8(0)
		for v := range m + 1 {
			got, ok := Max(v, m)
			if !ok || got < last || v == 0 && got != 0 || v == m && got != 255 {
				t.Errorf("Max(%d, %d) = %d, %t, behind %d", v, m, got, ok, last)
			}
			last = got
		}
	}
	next := random()
	for range 2000 {
		m := 1 + next(most32)
		expectMax(t, 0, m, 0)
		expectMax(t, m, m, 255)
		a, b := next(m+1), next(m+1)
		less, _ := Max(min(a, b), m)
		more, _ := Max(max(a, b), m)
		if less > more {
			t.Errorf("of %d: %d and %d are %d and %d", m, min(a, b), max(a, b), less, more)
		}
	}
}

// P8.2: of m 255, and of eight bits, each sample is itself.
func TestItself(t *testing.T) {
	s := made(t, 255)
	for v := range 256 {
		expectMax(t, v, 255, uint8(v))
		expectBits(t, v, 8, uint8(v))
		expectOf(t, s, v, uint8(v))
		expectLeast(t, uint8(v), 255, v, true)
	}
}
