package stretch

import (
	"strings"
	"testing"
)

// part is a stretch that All tells.
type part struct {
	n int
	v byte
}

// expect holds the stretches of a text against those that are wanted.
func expect(t *testing.T, s string, most int, want ...part) {
	t.Helper()
	var l []part
	for n, v := range All(s, most) {
		l = append(l, part{n, v})
	}
	if len(l) != len(want) {
		t.Fatalf("%q by %d: %v, not %v", s, most, l, want)
	}
	for i := range l {
		if l[i] != want[i] {
			t.Errorf("%q by %d: %v, not %v", s, most, l, want)
		}
	}
}

// P28.1, P29.1: stretches are as long as they can be, up to the most.
func TestAll(t *testing.T) {
	expect(t, "", 3)
	expect(t, "a", 3, part{1, 'a'})
	expect(t, "aab\x00\x00\x00\xff", 3, part{2, 'a'}, part{1, 'b'}, part{3, 0}, part{1, 0xff})
	expect(t, "aba", 3, part{1, 'a'}, part{1, 'b'}, part{1, 'a'})
	expect(t, "aaaaaaa", 3, part{3, 'a'}, part{3, 'a'}, part{1, 'a'})
	expect(t, "aaabbb", 1, part{1, 'a'}, part{1, 'a'}, part{1, 'a'}, part{1, 'b'}, part{1, 'b'}, part{1, 'b'})
	for n := 1; n < 300; n++ {
		for _, most := range []int{63, 256} {
			var want []part
			for left := n; left > 0; left -= most {
				want = append(want, part{min(left, most), 'x'})
			}
			expect(t, strings.Repeat("x", n)+"y", most, append(want, part{1, 'y'})...)
		}
	}
}

// P28.1, P29.1: whoever goes over stretches may end ahead of the last one.
func TestBreak(t *testing.T) {
	for n, v := range All("aab", 63) {
		if n != 2 || v != 'a' {
			t.Error(n, v)
		}
		break
	}
}
