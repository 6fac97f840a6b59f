package num

import (
	"math"
	"math/big"
	"testing"

	"tintype/api"
)

const most = api.MaxNumber

// edges are numbers about which something changes, and numbers that are none.
var edges = []int{
	math.MinInt, math.MinInt + 1, -most, -8, -2, -1,
	0, 1, 2, 3, 7, 8, 9, 16, 24, 32, 255,
	1<<31 - 1, 1 << 31, 1<<31 + 1, 1<<40 + 1,
	most/3 - 1, most / 3, most/3 + 1, most/2 - 1, most / 2, most/2 + 1,
	most - 8, most - 7, most - 1, most, most + 1, math.MaxInt,
}

// told is what a call answers: a number, and whether it is told.
type told struct {
	n  int
	ok bool
}

func answer(n int, ok bool) told { return told{n, ok} }

func number(n int) bool { return 0 <= n && n <= most }

// natural is a whole number of any size as it would be told.
func natural(n *big.Int) told {
	if n.Sign() < 0 || n.Cmp(big.NewInt(most)) > 0 {
		return told{}
	}
	return told{int(n.Int64()), true}
}

func wantSum(a, b int) told {
	if !number(a) || !number(b) {
		return told{}
	}
	return natural(new(big.Int).Add(big.NewInt(int64(a)), big.NewInt(int64(b))))
}

func wantProduct(a, b int) told {
	if !number(a) || !number(b) {
		return told{}
	}
	return natural(new(big.Int).Mul(big.NewInt(int64(a)), big.NewInt(int64(b))))
}

func wantCeil(a, b int) told {
	if !number(a) || !number(b) || b == 0 {
		return told{}
	}
	n := new(big.Int).Add(big.NewInt(int64(a)), big.NewInt(int64(b)-1))
	return natural(n.Quo(n, big.NewInt(int64(b))))
}

func wantStride(width, bits, align int) told {
	if !number(width) || !number(bits) || !number(align) || bits == 0 || align == 0 || align%8 != 0 {
		return told{}
	}
	used := wantProduct(width, bits)
	if !used.ok {
		return told{}
	}
	filled := wantProduct(wantCeil(used.n, align).n, align)
	return told{filled.n / 8, filled.ok}
}

// P1.1, P1.2: of all pairs of edges what natural numbers have.
func TestPairs(t *testing.T) {
	for _, a := range edges {
		for _, b := range edges {
			if got, want := answer(Add(a, b)), wantSum(a, b); got != want {
				t.Errorf("Add(%d, %d) = %v, not %v", a, b, got, want)
			}
			if got, want := answer(Mul(a, b)), wantProduct(a, b); got != want {
				t.Errorf("Mul(%d, %d) = %v, not %v", a, b, got, want)
			}
			if got, want := answer(Ceil(a, b)), wantCeil(a, b); got != want {
				t.Errorf("Ceil(%d, %d) = %v, not %v", a, b, got, want)
			}
		}
	}
}

// P1.1, P1.2: of all triples of edges, from the left on.
func TestTriples(t *testing.T) {
	for _, a := range edges {
		for _, b := range edges {
			for _, c := range edges {
				sum := wantSum(a, b)
				if sum.ok {
					sum = wantSum(sum.n, c)
				}
				if got := answer(Sum(a, b, c)); got != sum {
					t.Errorf("Sum(%d, %d, %d) = %v, not %v", a, b, c, got, sum)
				}
				product := wantProduct(a, b)
				if product.ok {
					product = wantProduct(product.n, c)
				}
				if got := answer(Product(a, b, c)); got != product {
					t.Errorf("Product(%d, %d, %d) = %v, not %v", a, b, c, got, product)
				}
				if got, want := answer(Stride(a, b, c)), wantStride(a, b, c); got != want {
					t.Errorf("Stride(%d, %d, %d) = %v, not %v", a, b, c, got, want)
				}
			}
		}
	}
}

// P1.1: sums and products of any count.
func TestLists(t *testing.T) {
	yes := func(n int) told { return told{n, true} }
	no := told{}
	cases := []struct {
		list         []int
		sum, product told
	}{
		{nil, yes(0), yes(1)},
		{[]int{}, yes(0), yes(1)},
		{[]int{5}, yes(5), yes(5)},
		{[]int{most}, yes(most), yes(most)},
		{[]int{most + 1}, no, no},
		{[]int{-1}, no, no},
		{[]int{1, 2, 3, 4}, yes(10), yes(24)},
		{[]int{3, -1, 2}, no, no},
		{[]int{0, -1}, no, no},
		{[]int{most, 0, 0}, yes(most), yes(0)},
		{[]int{most, 1, 0}, no, yes(0)},
		{[]int{0, most, most}, no, yes(0)},
		{[]int{1 << 40, 1 << 40, 0}, yes(1 << 41), no},
		{[]int{0, 1 << 40, 1 << 40}, yes(1 << 41), yes(0)},
	}
	for _, c := range cases {
		if got := answer(Sum(c.list...)); got != c.sum {
			t.Errorf("Sum%v = %v, not %v", c.list, got, c.sum)
		}
		if got := answer(Product(c.list...)); got != c.product {
			t.Errorf("Product%v = %v, not %v", c.list, got, c.product)
		}
	}
}

// What is handed in isn't changed.
func TestListStays(t *testing.T) {
	l := []int{2, 3, 4}
	Sum(l...)
	Product(l...)
	if l[0] != 2 || l[1] != 3 || l[2] != 4 {
		t.Error(l)
	}
}

// P1.1: the examples of the chapter, and others by hand.
func TestExamples(t *testing.T) {
	yes := func(n int) told { return told{n, true} }
	no := told{}
	cases := []struct {
		name      string
		got, want told
	}{
		{"a stride of the chapter", answer(Stride(3, 24, 32)), yes(12)},
		{"a quotient of the chapter", answer(Ceil(7, 2)), yes(4)},
		{"a product of the chapter", answer(Mul(1<<40, 1<<40)), no},
		{"no pixels", answer(Stride(0, 24, 32)), yes(0)},
		{"one bit", answer(Stride(1, 1, 8)), yes(1)},
		{"a whole row of bits", answer(Stride(8, 1, 8)), yes(1)},
		{"a bit more than a row", answer(Stride(9, 1, 8)), yes(2)},
		{"16 bits", answer(Stride(9, 1, 16)), yes(2)},
		{"a multiple of three bytes", answer(Stride(9, 1, 24)), yes(3)},
		{"no bits", answer(Stride(0, 0, 8)), no},
		{"no alignment", answer(Stride(1, 1, 0)), no},
		{"no multiple of 8", answer(Stride(3, 24, 12)), no},
		{"below 0", answer(Stride(-1, 24, 32)), no},
		{"a pixel below 0", answer(Stride(1, -24, 32)), no},
		{"an alignment below 0", answer(Stride(1, 24, -32)), no},
		{"an alignment below 0 of nothing", answer(Stride(0, 24, -32)), no},
		{"a pixel below 0 of nothing", answer(Stride(0, -24, 32)), no},
		{"the greatest row", answer(Stride(most, 1, 8)), yes(most / 8)},
		{"too great a row", answer(Stride(most, 2, 8)), no},
		{"too great a multiple", answer(Stride(most-1, 1, 24)), no},
		{"the greatest multiple", answer(Stride(1, 1, most)), yes(most / 8)},
		{"a quotient whose product would be too great", answer(Ceil(most, 3)), yes(most/3 + 1)},
		{"nothing in parts", answer(Ceil(0, 5)), yes(0)},
		{"parts of nothing", answer(Ceil(5, 0)), no},
		{"the greatest sum", answer(Add(most/2, most/2)), yes(most)},
		{"too great a sum", answer(Add(most/2, most/2+1)), no},
		{"a sum that would run over", answer(Add(most, most)), no},
		{"a sum that would be a number", answer(Add(-1, 2)), no},
		{"a product of two below 0", answer(Mul(-2, -3)), no},
		{"the greatest product", answer(Mul(1<<31, 1<<31)), yes(most)},
		{"too great a product", answer(Mul(1<<31, 1<<31+1)), no},
	}
	for _, c := range cases {
		if c.got != c.want {
			t.Errorf("%s: %v, not %v", c.name, c.got, c.want)
		}
	}
}

// P1.1: Clamp, also of limits in the wrong order, and of numbers that are none.
func TestClamp(t *testing.T) {
	cases := []struct{ v, least, greatest, want int }{
		{5, 7, 9, 7}, {7, 7, 9, 7}, {8, 7, 9, 8}, {9, 7, 9, 9}, {12, 7, 9, 9},
		{-5, -3, 3, -3}, {-2, -3, 3, -2}, {4, -3, 3, 3},
		{5, 9, 7, 9}, {8, 9, 7, 9}, {9, 9, 7, 7}, {12, 9, 7, 7},
		{math.MinInt, 0, 1, 0}, {math.MaxInt, 0, 1, 1},
		{0, math.MinInt, math.MaxInt, 0}, {0, 0, 0, 0},
		{math.MaxInt, math.MinInt, math.MaxInt, math.MaxInt},
		{0, math.MaxInt, math.MinInt, math.MaxInt},
	}
	for _, c := range cases {
		if got := Clamp(c.v, c.least, c.greatest); got != c.want {
			t.Errorf("Clamp(%d, %d, %d) = %d, not %d", c.v, c.least, c.greatest, got, c.want)
		}
	}
}
