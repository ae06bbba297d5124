package csum_test

import (
	"math"
	"strings"
	"testing"

	"siphon/api"
	"siphon/csum"
)

// texts are some of each length up to 40, with noughts, with all bits, and with bytes that look like noise.
func texts() []string {
	var l []string
	seed := uint32(7)
	for n := range 41 {
		l = append(l, strings.Repeat("\x00", n), strings.Repeat("\xff", n))
		b := make([]byte, n)
		for i := range b {
			seed = seed*1664525 + 1013904223
			b[i] = byte(seed >> 24)
		}
		l = append(l, string(b))
	}
	return l
}

// plain is the sum as the document's words say it, from the whole bytes.
func plain(s string) int {
	if len(s)%2 == 1 {
		s += "\x00"
	}
	total := 0
	for i := 0; i < len(s); i += 2 {
		total += int(s[i])<<8 + int(s[i+1])
		if total >= 65536 {
			total -= 65535
		}
	}
	return 65535 - total
}

// P2.1: ordinary texts, the empty one, odd lengths, sums of 0 and of 65535, and sums that run over.
func TestSum(t *testing.T) {
	for s, want := range map[string]int{
		"":                                 65535,
		"\x00\x01\xf2\x03\xf4\xf5\xf6\xf7": 8717,
		"\x00":                             65535,
		"\x00\x00":                         65535,
		"\x12":                             65535 - 0x1200,
		"\xff":                             0x00ff,
		"\x12\x34\x56":                     65535 - 0x1234 - 0x5600,
		"\xff\xff":                         0,
		"\xff\xff\xff\xff":                 0,
		"\xff\xff\x00":                     0,
		"\x80\x00\x7f\xff":                 0,
		"\xff\xff\x00\x01":                 65534,
		"\x80\x00\x80\x00":                 65534,
		"\xff\xfe\x00\x01":                 0,
		"\xff\xfe\x00\x02":                 65534,
	} {
		if n := csum.Sum(s); n != want {
			t.Errorf("%x: %d", s, n)
		}
	}
	for _, s := range texts() {
		if n, want := csum.Sum(s), plain(s); n != want {
			t.Errorf("%x: %d, not %d", s, n, want)
		}
	}
}

// P2.1: Right is whether the sum is 0; 65535 is none.
func TestRight(t *testing.T) {
	for s, want := range map[string]bool{
		"":                 false,
		"\x00\x00":         false,
		"\xff\xff":         true,
		"\xff\xff\x00":     true,
		"\xff":             false,
		"\x80\x00\x7f\xff": true,
		"\x80\x00\x7f\xfe": false,
		"\xff\xff\x00\x01": false,
		"\xf0\x00\x0f\xff": true,
	} {
		if is := csum.Right(s); is != want {
			t.Errorf("%x: %t", s, is)
		}
	}
}

// P2.2: behind an even length and behind an odd one, with 0 and 65535.
func TestJoin(t *testing.T) {
	for i, c := range []struct{ a, la, b, want int }{
		{65535, 0, 0x1234, 0x1234},
		{65534, 2, 65533, 65532},
		{65534, 1, 65533, 65535 - 0x201},
		{65535, 1, 0x1234, 0x3412},
		{0x1234, 1, 65535, 0x1234},
		{0x1234, 0, 65535, 0x1234},
		{65535, 0, 65535, 65535},
		{65535, 1, 65535, 65535},
		{0, 0, 0, 0},
		{0, 1, 0, 0},
		{0, 2, 65535, 0},
		{65535, 2, 0, 0},
		{0, 2, 65534, 65534},
		{0x7fff, 2, 0x8000, 0},
		{0x7fff, 2, 0x7fff, 65534},
		{65535, math.MaxInt, 0x1234, 0x3412},
		{65535, math.MaxInt - 1, 0x1234, 0x1234},
	} {
		if n, e := csum.Join(c.a, c.la, c.b); n != c.want || e != api.OK {
			t.Errorf("case %d: %d, %d", i, n, e)
		}
	}
}

// P2.2, R3: sums that are none and lengths below 0, with no sum.
func TestJoinTellsWrongArguments(t *testing.T) {
	for i, c := range []struct{ a, la, b int }{
		{65536, 0, 0},
		{-1, 0, 0},
		{0, 0, 65536},
		{0, 0, -1},
		{0, -1, 0},
		{0, -2, 0},
		{1, math.MinInt, 1},
		{math.MaxInt, 0, 1},
		{math.MinInt, 0, 1},
		{1, 0, math.MaxInt},
		{1, 1, math.MinInt},
		{-1, -1, -1},
	} {
		if n, e := csum.Join(c.a, c.la, c.b); n != 0 || e != api.ErrArg {
			t.Errorf("case %d: %d, %d", i, n, e)
		}
	}
}

// P2.2: it is the Sum of two texts, one behind the other.
func TestJoinIsTheSumOfBothTexts(t *testing.T) {
	for _, a := range texts() {
		for _, b := range texts() {
			n, e := csum.Join(csum.Sum(a), len(a), csum.Sum(b))
			if want := csum.Sum(a + b); n%65535 != want%65535 || e != api.OK {
				t.Errorf("%x, %x: %d, %d, not %d", a, b, n, e, want)
			}
		}
	}
}

// P2.3: addresses of 4 bytes and of 16, with the least and the greatest numbers.
func TestPseudo(t *testing.T) {
	src, dst := "0123456789abcdef", "ghijklmnopqrstuv"
	for i, c := range []struct {
		src, dst string
		n, proto int
		want     string
	}{
		{"abcd", "efgh", 300, 2, "abcdefgh\x00\x02\x01\x2c"},
		{"abcd", "efgh", 0, 0, "abcdefgh\x00\x00\x00\x00"},
		{"abcd", "abcd", 65535, 255, "abcdabcd\x00\xff\xff\xff"},
		{src, dst, 300, 58, src + dst + "\x00\x00\x01\x2c\x00\x00\x00\x3a"},
		{src, dst, 0, 0, src + dst + "\x00\x00\x00\x00\x00\x00\x00\x00"},
		{dst, src, 65535, 255, dst + src + "\x00\x00\xff\xff\x00\x00\x00\xff"},
	} {
		if s, e := csum.Pseudo(api.Addr(c.src), api.Addr(c.dst), c.n, c.proto); s != c.want || e != api.OK {
			t.Errorf("case %d: %q, %d", i, s, e)
		}
	}
}

// P2.3, R3: addresses of other lengths or of two, and numbers beyond the edges, with no text.
func TestPseudoTellsWrongArguments(t *testing.T) {
	four, six := "abcd", "0123456789abcdef"
	for i, c := range []struct {
		src, dst string
		n, proto int
	}{
		{"", "", 1, 1},
		{"abc", "abc", 1, 1},
		{"abcde", "abcde", 1, 1},
		{"abcdefgh", "abcdefgh", 1, 1},
		{six[1:], six[1:], 1, 1},
		{six + "x", six + "x", 1, 1},
		{four, six, 1, 1},
		{six, four, 1, 1},
		{four, "", 1, 1},
		{"", four, 1, 1},
		{four, "abc", 1, 1},
		{six, six[1:], 1, 1},
		{four, four, -1, 1},
		{four, four, 65536, 1},
		{six, six, -1, 1},
		{six, six, 65536, 1},
		{four, four, 1, -1},
		{four, four, 1, 256},
		{six, six, 1, -1},
		{six, six, 1, 256},
		{four, four, math.MinInt, math.MinInt},
		{six, six, math.MaxInt, math.MaxInt},
	} {
		if s, e := csum.Pseudo(api.Addr(c.src), api.Addr(c.dst), c.n, c.proto); s != "" || e != api.ErrArg {
			t.Errorf("case %d: %q, %d", i, s, e)
		}
	}
}

// P2.4: at the beginning, inside and at the end; what stood at the place counts for nothing.
func TestFill(t *testing.T) {
	for i, c := range []struct {
		ahead, s string
		at       int
		want     string
	}{
		{"", "\x00\x00", 0, "\xff\xff"},
		{"", "\x12\x34", 0, "\xff\xff"},
		{"", "\x00\x00\x12\x34", 0, "\xed\xcb\x12\x34"},
		{"", "xx\x12\x34", 0, "\xed\xcb\x12\x34"},
		{"", "\x12\x34xx", 2, "\x12\x34\xed\xcb"},
		{"", "\x12\x34xx\x00\x01", 2, "\x12\x34\xed\xca\x00\x01"},
		{"\x12\x34", "xx", 0, "\xed\xcb"},
		{"\xff\xff", "xx", 0, "\x00\x00"},
		{"", "\xff\xffxx", 2, "\xff\xff\x00\x00"},
		{"\x12\x34", "xx\x01", 0, "\xec\xcb\x01"},
		{"\x00\x00", "\x17\x00xx\xe0\x01\x02\x03", 2, "\x17\x00\x06\xfb\xe0\x01\x02\x03"},
	} {
		if s, e := csum.Fill(c.ahead, c.s, c.at); s != c.want || e != api.OK {
			t.Errorf("case %d: %q, %d", i, s, e)
		}
	}
}

// P2.4, R3: places below 0, odd, at the end and beyond it, and odd lengths ahead, with no text.
func TestFillTellsWrongArguments(t *testing.T) {
	for i, c := range []struct {
		ahead, s string
		at       int
	}{
		{"", "abcd", -1},
		{"", "abcd", -2},
		{"", "abcd", math.MinInt},
		{"", "abcd", 1},
		{"", "abcd", 3},
		{"", "abcd", 4},
		{"", "abcd", 6},
		{"", "abcde", 4},
		{"", "abcd", math.MaxInt},
		{"", "abcd", math.MaxInt - 1},
		{"", "", 0},
		{"", "a", 0},
		{"x", "ab", 0},
		{"xyz", "abcd", 2},
	} {
		if s, e := csum.Fill(c.ahead, c.s, c.at); s != "" || e != api.ErrArg {
			t.Errorf("case %d: %q, %d", i, s, e)
		}
	}
}

// P2.4, P2.5: behind Fill both texts are Right, and all bytes but two stand as they stood.
func TestFilledTextsAreRight(t *testing.T) {
	for _, ahead := range []string{"", "ab", "\xff\xff", "\x00\x00", "abcdefghijkl"} {
		for _, s := range texts() {
			for at := 0; at+2 <= len(s); at += 2 {
				filled, e := csum.Fill(ahead, s, at)
				if e != api.OK || !csum.Right(ahead+filled) {
					t.Fatalf("%x, %x, %d: %x, %d", ahead, s, at, filled, e)
				}
				if len(filled) != len(s) || filled[:at] != s[:at] || filled[at+2:] != s[at+2:] {
					t.Fatalf("%x, %x, %d: other bytes: %x", ahead, s, at, filled)
				}
			}
		}
	}
}

// P2.5: a Sum does not hang on the order of words.
func TestSumDoesNotHangOnTheOrderOfWords(t *testing.T) {
	for _, s := range texts() {
		if len(s)%2 == 1 {
			s = s[1:]
		}
		turned := ""
		for i := 0; i < len(s); i += 2 {
			turned = s[i:i+2] + turned
		}
		if csum.Sum(turned) != csum.Sum(s) {
			t.Errorf("%x: %d, %d", s, csum.Sum(s), csum.Sum(turned))
		}
	}
}

// P2.5: one bit that is turned turns the Sum; 0 and 65535 count alike.
func TestOneBitTurnsTheSum(t *testing.T) {
	for _, s := range texts() {
		for bit := range 8 * len(s) {
			b := []byte(s)
			b[bit/8] ^= 1 << (bit % 8)
			if csum.Sum(string(b))%65535 == csum.Sum(s)%65535 {
				t.Errorf("%x: bit %d", s, bit)
			}
		}
	}
}
