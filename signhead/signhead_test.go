package signhead

import (
	"testing"

	"tintype/api"
	"tintype/ledger"
	"tintype/src"
)

// head is what Read tells.
type head struct {
	width, height int
	bytes         string
	f             api.Fault
}

// read reads a head of so many bytes from a place on.
func read(t *testing.T, text string, at, size int) head {
	t.Helper()
	s, e := src.New(ledger.New(api.Budget{MaxWork: 1}), text)
	if e != api.OK || !s.Seek(at) {
		t.Fatal(e)
	}
	var h head
	h.width, h.height, h.bytes, h.f = Read(s, "sign", size, api.SUN)
	if h.f.Kind == api.NoFault && s.At() != at+size {
		t.Errorf("%q: the place is %d", text, s.At())
	}
	return h
}

// P26.1, P27.1: heads that have nothing behind the sides, and such that have.
func TestRead(t *testing.T) {
	for _, more := range []string{"", "\x00", "more"} {
		for _, w := range []int{1, 2, 258, 16384} {
			for _, h := range []int{1, 3, 4099, 16384} {
				b := Bytes("sign", w, h) + more
				if got := read(t, "!"+b+"behind", 1, len(b)); got != (head{w, h, b, api.Fault{}}) {
					t.Errorf("%q: %+v", b, got)
				}
			}
		}
	}
}

// P26.1, P27.1: what is wrong is told of the format, at a place of the whole text.
func TestWrong(t *testing.T) {
	for _, x := range []struct {
		text     string
		kind, at int
	}{
		{"xsign\x00\x00\x00\x01\x00\x00\x00", api.Truncated, 12},
		{"xSIGN\x00\x00\x00\x00\x00\x00\x00\x00", api.Malformed, 1},
		{"xsigN\x00\x00\x00\x00\x00\x00\x00\x00", api.Malformed, 4},
		{"xsign\x00\x00\x00\x00\x00\x00\x00\x00", api.Malformed, 5},
		{"xsign\x00\x00\x40\x01\x00\x00\x00\x00", api.Unsupported, 5},
		{"xsign\x00\x00\x40\x00\x00\x00\x00\x00", api.Malformed, 9},
		{"xsign\x00\x00\x00\x01\x80\x00\x00\x00", api.Unsupported, 9},
	} {
		if got := read(t, x.text, 1, 12); got != (head{f: api.Fault{Kind: x.kind, Format: api.SUN, At: x.at}}) {
			t.Errorf("%q: %+v", x.text, got)
		}
	}
}

// P26.1, P27.1, P29.1: the sides stand behind the sign, the highest byte first, and other numbers behind them.
func TestBytes(t *testing.T) {
	for _, x := range []struct {
		width, height int
		want          string
	}{
		{1, 2, "sign\x00\x00\x00\x01\x00\x00\x00\x02"},
		{16384, 258, "sign\x00\x00\x40\x00\x00\x00\x01\x02"},
		{0x01020304, 0xfffefdfc, "sign\x01\x02\x03\x04\xff\xfe\xfd\xfc"},
	} {
		if got := Bytes("sign", x.width, x.height); got != x.want {
			t.Errorf("%d by %d: %q", x.width, x.height, got)
		}
	}
	if got := Bytes("sign", 1, 2, 3, 0xfefdfcfb); got != "sign\x00\x00\x00\x01\x00\x00\x00\x02\x00\x00\x00\x03\xfe\xfd\xfc\xfb" {
		t.Errorf("%q", got)
	}
}

// P29.1: a number is that of the first four bytes.
func TestNumber(t *testing.T) {
	for s, want := range map[string]int{"\x00\x00\x00\x00": 0, "\x01\x02\x03\x04\x05": 0x01020304, "\xff\xff\xff\xff": 1<<32 - 1, "\x80\x00\x00\x01\xff": 1<<31 + 1} {
		if got := Number(s); got != want {
			t.Errorf("%q: %d", s, got)
		}
	}
}
