package octet_test

import (
	"math"
	"strings"
	"testing"

	"siphon/api"
	"siphon/octet"
)

// P1.1: each width, at the beginning, inside and at the end.
func TestGetReadsTheHighestByteFirst(t *testing.T) {
	for i, c := range []struct {
		s     string
		at    int
		width int
		want  int
	}{
		{"\x01\x02\x03", 1, 2, 515},
		{"\x01\x02\x03", 0, 1, 1},
		{"\x01\x02\x03", 2, 1, 3},
		{"\x01\x02\x03", 0, 3, 0x010203},
		{"\x01\x02\x03\x04\x05", 0, 4, 0x01020304},
		{"\x01\x02\x03\x04\x05", 1, 4, 0x02030405},
		{"\x00\x00\x00\x00", 0, 4, 0},
		{"\xff", 0, 1, 255},
		{"\xff\xff", 0, 2, 65535},
		{"\xff\xff\xff", 0, 3, 1<<24 - 1},
		{"\xff\xff\xff\xff", 0, 4, 1<<32 - 1},
		{"\x80\x00\x00\x00", 0, 4, 1 << 31},
	} {
		if n, e := octet.Get(c.s, c.at, c.width); n != c.want || e != api.OK {
			t.Errorf("case %d: %d, %d", i, n, e)
		}
	}
}

// P1.1, R2, R3: wrong arguments are told ahead of missing bytes, with no number.
func TestGetTellsWrongPlacesAndWidths(t *testing.T) {
	for i, c := range []struct {
		s     string
		at    int
		width int
		want  api.Errno
	}{
		{"\x01\x02\x03\x04\x05", -1, 1, api.ErrArg},
		{"\x01\x02\x03\x04\x05", math.MinInt, 1, api.ErrArg},
		{"\x01\x02\x03\x04\x05", 0, 0, api.ErrArg},
		{"\x01\x02\x03\x04\x05", 0, 5, api.ErrArg},
		{"\x01\x02\x03\x04\x05", 0, -1, api.ErrArg},
		{"\x01\x02\x03\x04\x05", 0, math.MinInt, api.ErrArg},
		{"\x01\x02\x03\x04\x05", 0, math.MaxInt, api.ErrArg},
		{"", -1, 4, api.ErrArg},
		{"", 0, 0, api.ErrArg},
		{"", 9, 5, api.ErrArg},
		{"", -1, 5, api.ErrArg},
		{"", 0, 1, api.ErrCut},
		{"\x01", 1, 1, api.ErrCut},
		{"\x01", 2, 1, api.ErrCut},
		{"\x01", 0, 2, api.ErrCut},
		{"\x01\x02\x03", 0, 4, api.ErrCut},
		{"\x01\x02\x03", 2, 2, api.ErrCut},
		{"\x01\x02\x03", math.MaxInt, 1, api.ErrCut},
		{"\x01\x02\x03", math.MaxInt, 4, api.ErrCut},
	} {
		if n, e := octet.Get(c.s, c.at, c.width); n != 0 || e != c.want {
			t.Errorf("case %d: %d, %d", i, n, e)
		}
	}
}

// P1.1: each width, with its least and its greatest number.
func TestPutWritesTheHighestByteFirst(t *testing.T) {
	for i, c := range []struct {
		n     int
		width int
		want  string
	}{
		{515, 2, "\x02\x03"},
		{515, 4, "\x00\x00\x02\x03"},
		{0x010203, 3, "\x01\x02\x03"},
		{0x01020304, 4, "\x01\x02\x03\x04"},
		{0, 1, "\x00"},
		{0, 2, "\x00\x00"},
		{0, 3, "\x00\x00\x00"},
		{0, 4, "\x00\x00\x00\x00"},
		{255, 1, "\xff"},
		{65535, 2, "\xff\xff"},
		{1<<24 - 1, 3, "\xff\xff\xff"},
		{1<<32 - 1, 4, "\xff\xff\xff\xff"},
	} {
		if s, e := octet.Put(c.n, c.width); s != c.want || e != api.OK {
			t.Errorf("case %d: %q, %d", i, s, e)
		}
	}
}

// P1.1, R3: one more than the greatest number of a width, numbers below 0, and widths that there are none of.
func TestPutTellsWhatDoesNotFit(t *testing.T) {
	for width := 1; width <= 4; width++ {
		for _, n := range []int{1 << (8 * width), math.MaxInt, -1, -256, math.MinInt} {
			if s, e := octet.Put(n, width); s != "" || e != api.ErrArg {
				t.Errorf("%d in %d bytes: %q, %d", n, width, s, e)
			}
		}
	}
	for _, width := range []int{0, 5, 8, -1, math.MaxInt, math.MinInt} {
		for _, n := range []int{0, 1, -1} {
			if s, e := octet.Put(n, width); s != "" || e != api.ErrArg {
				t.Errorf("%d in %d bytes: %q, %d", n, width, s, e)
			}
		}
	}
}

// P1.2: numbers of eight bytes, with and without the highest bit.
func TestWideAndEight(t *testing.T) {
	for n, want := range map[uint64]string{
		0:                  "\x00\x00\x00\x00\x00\x00\x00\x00",
		1:                  "\x00\x00\x00\x00\x00\x00\x00\x01",
		0x0102030405060708: "\x01\x02\x03\x04\x05\x06\x07\x08",
		1 << 63:            "\x80\x00\x00\x00\x00\x00\x00\x00",
		math.MaxUint64:     "\xff\xff\xff\xff\xff\xff\xff\xff",
	} {
		if s := octet.Eight(n); s != want {
			t.Errorf("%d: %q", n, s)
		}
		for _, ahead := range []string{"", "x", "xyz"} {
			if m, e := octet.Wide(ahead+want+ahead, len(ahead)); m != n || e != api.OK {
				t.Errorf("%q at %d: %d, %d", want, len(ahead), m, e)
			}
		}
	}
}

// P1.2, R2, R3: places below 0 are told ahead of missing bytes, with no number.
func TestWideTellsWrongPlaces(t *testing.T) {
	for i, c := range []struct {
		s    string
		at   int
		want api.Errno
	}{
		{"123456789", -1, api.ErrArg},
		{"123456789", math.MinInt, api.ErrArg},
		{"", -1, api.ErrArg},
		{"", 0, api.ErrCut},
		{"1234567", 0, api.ErrCut},
		{"123456789", 2, api.ErrCut},
		{"123456789", 9, api.ErrCut},
		{"123456789", 10, api.ErrCut},
		{"123456789", math.MaxInt, api.ErrCut},
	} {
		if n, e := octet.Wide(c.s, c.at); n != 0 || e != c.want {
			t.Errorf("case %d: %d, %d", i, n, e)
		}
	}
}

// P1.3: parts at the beginning, inside and at the end, and empty ones.
func TestCutTellsParts(t *testing.T) {
	for i, c := range []struct {
		s    string
		at   int
		n    int
		want string
	}{
		{"abc", 0, 3, "abc"},
		{"abc", 0, 1, "a"},
		{"abc", 1, 2, "bc"},
		{"abc", 2, 1, "c"},
		{"abc", 0, 0, ""},
		{"abc", 3, 0, ""},
		{"", 0, 0, ""},
	} {
		if s, e := octet.Cut(c.s, c.at, c.n); s != c.want || e != api.OK {
			t.Errorf("case %d: %q, %d", i, s, e)
		}
	}
}

// P1.3, R2, R3: numbers below 0 are told ahead of missing bytes, with no part.
func TestCutTellsWrongPlacesAndLengths(t *testing.T) {
	for i, c := range []struct {
		s    string
		at   int
		n    int
		want api.Errno
	}{
		{"abc", -1, 0, api.ErrArg},
		{"abc", -1, 1, api.ErrArg},
		{"abc", 0, -1, api.ErrArg},
		{"abc", 1, -1, api.ErrArg},
		{"abc", 4, -1, api.ErrArg},
		{"abc", -1, 9, api.ErrArg},
		{"abc", math.MinInt, 0, api.ErrArg},
		{"abc", 0, math.MinInt, api.ErrArg},
		{"abc", math.MinInt, math.MinInt, api.ErrArg},
		{"abc", 4, 0, api.ErrCut},
		{"abc", 0, 4, api.ErrCut},
		{"abc", 2, 2, api.ErrCut},
		{"abc", 3, 1, api.ErrCut},
		{"", 1, 0, api.ErrCut},
		{"", 0, 1, api.ErrCut},
		{"abc", math.MaxInt, 0, api.ErrCut},
		{"abc", 1, math.MaxInt, api.ErrCut},
		{"abc", math.MaxInt, math.MaxInt, api.ErrCut},
	} {
		if s, e := octet.Cut(c.s, c.at, c.n); s != "" || e != c.want {
			t.Errorf("case %d: %q, %d", i, s, e)
		}
	}
}

// R5: a part that shared the whole text's memory would keep all of it.
func TestCutAnswersNewMemory(t *testing.T) {
	whole := strings.Repeat("abc", 100)
	var part string
	if made := testing.AllocsPerRun(20, func() { part, _ = octet.Cut(whole, 10, 200) }); made < 1 {
		t.Errorf("nothing new was made for %q", part)
	}
}

// P1.4: what was put is read, wherever it stands.
func TestWhatWasPutIsRead(t *testing.T) {
	for width := 1; width <= 4; width++ {
		greatest := 1<<(8*width) - 1
		for _, n := range []int{0, 1, 127, 128, 255, greatest / 3, greatest / 2, greatest - 1, greatest} {
			s, e := octet.Put(n, width)
			if len(s) != width || e != api.OK {
				t.Fatalf("%d in %d bytes: %q, %d", n, width, s, e)
			}
			for at := range 5 {
				text := strings.Repeat("\xee", at) + s + "\xee"
				if m, e := octet.Get(text, at, width); m != n || e != api.OK {
					t.Errorf("%d in %d bytes at %d: %d, %d", n, width, at, m, e)
				}
			}
		}
	}
	for bit := range 64 {
		n := uint64(1)<<bit | 5
		if m, e := octet.Wide("x"+octet.Eight(n)+"x", 1); m != n || e != api.OK {
			t.Errorf("%d: %d, %d", n, m, e)
		}
	}
}

// P1.4: a number of two parts is the first one times 256 for each byte of the second one, and that.
func TestNumbersOfTwoParts(t *testing.T) {
	s := "\x80\x00\x7f\xff\x01\xfe\x00\x10"
	for at := range len(s) {
		for first := 1; first <= 3; first++ {
			for second := 1; first+second <= 4 && at+first+second <= len(s); second++ {
				a, _ := octet.Get(s, at, first)
				b, _ := octet.Get(s, at+first, second)
				n, e := octet.Get(s, at, first+second)
				if n != a<<(8*second)+b || e != api.OK {
					t.Errorf("%d and %d bytes at %d: %d, %d; apart %d, %d", first, second, at, n, e, a, b)
				}
			}
		}
	}
	high, _ := octet.Get(s, 0, 4)
	low, _ := octet.Get(s, 4, 4)
	if n, _ := octet.Wide(s, 0); n != uint64(high)<<32+uint64(low) {
		t.Errorf("%d; apart %d, %d", n, high, low)
	}
}

// P1.4: parts of parts are parts.
func TestPartsOfParts(t *testing.T) {
	s := "abcdef"
	for at := range len(s) + 1 {
		for n := range len(s) - at + 1 {
			part, e := octet.Cut(s, at, n)
			if e != api.OK {
				t.Fatalf("%d from %d on: %d", n, at, e)
			}
			for inner := range n + 1 {
				for m := range n - inner + 1 {
					twice, e1 := octet.Cut(part, inner, m)
					once, e2 := octet.Cut(s, at+inner, m)
					if twice != once || e1 != api.OK || e2 != api.OK {
						t.Errorf("%d from %d on: %q, %q", m, at+inner, twice, once)
					}
				}
			}
		}
	}
}
