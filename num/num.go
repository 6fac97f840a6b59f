// Package num is layer 1: sums and products that don't run over; see shared/doc/01-num.md.
package num

import "tintype/api"

// isNumber tells whether n is from 0 to MaxNumber.
func isNumber(n int) bool { return n >= 0 && n <= api.MaxNumber }

// Add is the sum of two numbers, if it is a number, too.
func Add(a, b int) (int, bool) {
	// MaxNumber less b is asked in place of the sum, which could run over.
	if !isNumber(a) || !isNumber(b) || a > api.MaxNumber-b {
		return 0, false
	}
	return a + b, true
}

// Mul is the product of two numbers, if it is a number, too.
func Mul(a, b int) (int, bool) {
	if !isNumber(a) || !isNumber(b) {
		return 0, false
	}
	if b > 0 && a > api.MaxNumber/b {
		return 0, false
	}
	return a * b, true
}

// Sum is that of all numbers, from the left on.
func Sum(l ...int) (int, bool) { return fold(Add, 0, l) }

// Product is that of all numbers, from the left on.
func Product(l ...int) (int, bool) { return fold(Mul, 1, l) }

// fold joins the numbers of l to v, one by one, as long as join tells a number.
func fold(join func(a, b int) (int, bool), v int, l []int) (int, bool) {
	for _, n := range l {
		next, ok := join(v, n)
		if !ok {
			return 0, false
		}
		v = next
	}
	return v, true
}

// Ceil is the least number that, times b, is at least a.
func Ceil(a, b int) (int, bool) {
	if !isNumber(a) || !isNumber(b) || b == 0 {
		return 0, false
	}
	n := a / b
	if a%b > 0 {
		n++
	}
	return n, true
}

// Stride is how many bytes a row of so many pixels has, each of so many bits, filled up to a multiple of align bits.
func Stride(width, bits, align int) (int, bool) {
	if bits == 0 || align%8 != 0 {
		return 0, false
	}
	used, ok := Mul(width, bits)
	if !ok {
		return 0, false
	}
	times, ok := Ceil(used, align)
	if !ok {
		return 0, false
	}
	filled, ok := Mul(times, align)
	if !ok {
		return 0, false
	}
	return filled / 8, true
}

// Clamp is v, brought up to least, or else down to greatest.
func Clamp(v, least, greatest int) int {
	switch {
	case v < least:
		return least
	case v > greatest:
		return greatest
	}
	return v
}
