// Package stretch is what packets of several formats have in common: they stand for stretches of like bytes; see shared/doc/28-pcx.md and shared/doc/29-sun.md.
package stretch

import "iter"

// All are those of a text, one behind the other: how many bytes each has, as many as there are side by side, but no more than most; and which byte.
func All(s string, most int) iter.Seq2[int, byte] {
	return func(yield func(n int, v byte) bool) {
		for len(s) > 0 {
			n := alike(s, most)
			if !yield(n, s[0]) {
				return
			}
			s = s[n:]
		}
	}
}

// alike is how many bytes of a text, that isn't empty, are the first one, up to most.
func alike(s string, most int) int {
	n := 1
	for n < min(len(s), most) && s[n] == s[0] {
		n++
	}
	return n
}
