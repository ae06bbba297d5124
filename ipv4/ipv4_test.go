package ipv4_test

import (
	"math"
	"strings"
	"testing"
	"unsafe"

	"siphon/api"
	"siphon/csum"
	"siphon/ipv4"
)

const (
	src   = "\x0a\x00\x00\x01"
	dst   = "\xe0\x00\x00\x16"
	alert = "\x94\x04\x00\x00"
)

// packets are such as may be, with the bytes that they stand in, as told by hand.
func packets() map[string]api.V4 {
	return map[string]api.V4{
		"\x46\x00\x00\x1d\x00\x07\x00\x00\x01\x02\x3a\xbd" + src + dst + alert + "hello": {
			Id: 7, Ttl: 1, Proto: 2, Src: src, Dst: dst, Options: alert, Data: "hello"},
		"\x45\x00\x00\x14\x00\x00\x00\x00\x00\x00\xba\xeb\x00\x00\x00\x00\x00\x00\x00\x00": {
			Src: "\x00\x00\x00\x00", Dst: "\x00\x00\x00\x00"},
		"\x45\x00\x00\x16\xff\xff\x00\x00\xff\xff\xba\xe9\xff\xff\xff\xff\xff\xff\xff\xff\x00\x01": {
			Id: 65535, Ttl: 255, Proto: 255, Src: "\xff\xff\xff\xff", Dst: "\xff\xff\xff\xff", Data: "\x00\x01"},
		"\x45\x00\x00\x15\x12\x34\x00\x00\x40\x11\xe6\x8b\xc0\xa8\x00\x01\xc0\xa8\x00\xc7d": {
			Id: 0x1234, Ttl: 64, Proto: 17, Src: "\xc0\xa8\x00\x01", Dst: "\xc0\xa8\x00\xc7", Data: "d"},
	}
}

// changed is s with other bytes from place at on, and with the sum of its head that is right for them.
func changed(t *testing.T, s string, at int, with string) string {
	t.Helper()
	s = s[:at] + with + s[at+len(with):]
	size := int(s[0]) % 16 * 4
	head, e := csum.Fill("", s[:size], 10)
	if e != api.OK {
		t.Fatalf("%x: no sum: %d", s, e)
	}
	return head + s[size:]
}

// encoded is the bytes of a packet that may be.
func encoded(t *testing.T, p api.V4) string {
	t.Helper()
	s, e := ipv4.Encode(p)
	if e != api.OK {
		t.Fatalf("%#v: %d", p, e)
	}
	return s
}

// small is a packet of which the head has so many words.
func small(t *testing.T, words int) (string, api.V4) {
	t.Helper()
	p := api.V4{Id: 0x5a5, Ttl: 9, Proto: 2, Src: src, Dst: dst, Options: strings.Repeat("\x01\x02\x03\x04", words-5), Data: "data"}
	return encoded(t, p), p
}

// refused tells of each text that Decode must refuse it so, with no packet.
func refused(t *testing.T, want api.Errno, l ...string) {
	t.Helper()
	for i, s := range l {
		if p, e := ipv4.Decode(s); p != (api.V4{}) || e != want {
			t.Errorf("case %d, of %d bytes: %#v, %d", i, len(s), p, e)
		}
	}
}

// taken tells of each text that Decode must read it as that packet.
func taken(t *testing.T, want api.V4, l ...string) {
	t.Helper()
	for i, s := range l {
		if p, e := ipv4.Decode(s); p != want || e != api.OK {
			t.Errorf("case %d, of %d bytes: %#v, %d", i, len(s), p, e)
		}
	}
}

// P4.1, P4.2, R4: each part where it belongs, with its least and its greatest number.
func TestPacketsAreReadAndWritten(t *testing.T) {
	for s, want := range packets() {
		taken(t, want, s)
		if b := encoded(t, want); b != s {
			t.Errorf("%x: written %x", s, b)
		}
	}
}

// P4.1: 19 bytes are too few, 20 enough; so with each head of five words to fifteen, and with the Data behind it.
func TestDecodeTellsMissingBytes(t *testing.T) {
	for words := 5; words <= 15; words++ {
		s, want := small(t, words)
		taken(t, want, s)
		for n := range s {
			refused(t, api.ErrCut, s[:n])
		}
	}
	for s := range packets() {
		refused(t, api.ErrCut, s[:19])
	}
	bare := api.V4{Ttl: 1, Src: src, Dst: dst}
	taken(t, bare, encoded(t, bare))
}

// P4.1, R2: a first byte that is wrong counts for nothing where there are fewer than 20 bytes, but ahead of a head that does not stand there whole and of its sum.
func TestDecodeTellsTheFirstByte(t *testing.T) {
	s, _ := small(t, 15)
	for first := range 256 {
		text := string([]byte{byte(first)}) + s[1:]
		refused(t, api.ErrCut, text[:19], text[:1])
		if first/16 != 4 || first%16 < 5 {
			refused(t, api.ErrForm, text, text[:20], text[:59])
			continue
		}
		refused(t, api.ErrCut, text[:first%16*4-1])
		if first%16 != 15 {
			refused(t, api.ErrSum, text, text[:first%16*4])
		}
	}
	right := strings.Repeat("\x45", 20)
	for _, first := range []string{"\x44", "\x40", "\x35", "\x55", "\x65", "\xc5", "\x05"} {
		b := []byte(first + right[1:])
		b[10], b[11] = 0, 0
		sum := csum.Sum(string(b))
		b[10], b[11] = byte(sum>>8), byte(sum)
		refused(t, api.ErrForm, string(b), string(b)+right+right+right)
	}
}

// P4.1, R2: a head that does not stand there whole is told ahead of its sum, the sum ahead of all that stands in it.
func TestDecodeTellsTheSum(t *testing.T) {
	for words := 5; words <= 15; words++ {
		s, _ := small(t, words)
		for _, wrong := range []string{
			s[:10] + string([]byte{s[10] ^ 1}) + s[11:],
			s[:11] + string([]byte{s[11] ^ 0x80}) + s[12:],
			s[:2] + "\x00\x13" + s[4:],
			s[:2] + "\xff\xff" + s[4:],
			s[:6] + "\x20\x00" + s[8:],
			s[:2] + "\x00\x00" + s[4:6] + "\xff\xff" + s[8:],
		} {
			refused(t, api.ErrSum, wrong, wrong[:4*words])
			refused(t, api.ErrCut, wrong[:4*words-1])
		}
	}
}

// P4.1: a sum is of the head alone, and of the whole of it.
func TestTheSumIsOfTheHead(t *testing.T) {
	s, want := small(t, 15)
	want.Data = "dbtb"
	taken(t, want, s[:60]+"dbtb")
	refused(t, api.ErrSum, s[:59]+"\x05data")
	five, want := small(t, 5)
	want.Data = "\x00\xff\x00\xff"
	taken(t, want, five[:20]+"\x00\xff\x00\xff")
}

// P4.1, R2: how many bytes the packet has: below its head, as many as it, up to all there are, and beyond.
func TestDecodeTellsTheLength(t *testing.T) {
	for _, words := range []int{5, 6, 15} {
		s, want := small(t, words)
		head := 4 * words
		for size := range len(s) + 20 {
			text := changed(t, s, 2, "\x00"+string([]byte{byte(size)}))
			part := changed(t, text, 6, "\x20\x00")
			switch {
			case size < head:
				refused(t, api.ErrForm, text, part, text[:head])
			case size > len(s):
				refused(t, api.ErrCut, text, part)
			default:
				want.Data = s[head:size]
				taken(t, want, text, text[:size])
				refused(t, api.ErrForm, part)
			}
		}
		refused(t, api.ErrForm, changed(t, s, 2, "\x00\x00"))
		refused(t, api.ErrCut, changed(t, s, 2, "\x01"+s[3:4]), changed(t, s, 2, "\xff\xff"))
	}
}

// P4.1: each of the bytes 6 and 7; what is asked there is not told.
func TestDecodeTellsParts(t *testing.T) {
	s, want := small(t, 6)
	for n := range 256 {
		for _, flags := range [][2]byte{{byte(n), 0}, {0, byte(n)}, {0x40, byte(n)}, {0x20, byte(n)}, {byte(n), 0x40}} {
			text := changed(t, s, 6, string(flags[:]))
			if flags == [2]byte{0, 0} || flags == [2]byte{0x40, 0} {
				taken(t, want, text)
				continue
			}
			refused(t, api.ErrForm, text)
		}
	}
}

// P4.1: the second byte is free, and what stands behind the packet counts for nothing.
func TestDecodeTakesWhatCountsForNothing(t *testing.T) {
	for s, want := range packets() {
		for free := range 256 {
			taken(t, want, changed(t, s, 1, string([]byte{byte(free)})))
		}
		taken(t, want, s+"\x00", s+"padding", s+s, s+strings.Repeat("\x45", 70000))
	}
}

// P4.2: Options of each length that there is, and a packet of 65535 bytes with the least and the greatest head.
func TestEncodeTakesTheGreatest(t *testing.T) {
	for n := 0; n <= 40; n += 4 {
		p := api.V4{Src: src, Dst: dst, Options: strings.Repeat("\x07", n), Data: strings.Repeat("d", 65535-20-n)}
		s := encoded(t, p)
		if len(s) != 65535 || s[:4] != string([]byte{byte(0x45 + n/4), 0, 0xff, 0xff}) || !csum.Right(s[:20+n]) {
			t.Errorf("with %d bytes of Options: %d bytes, %x", n, len(s), s[:20+n])
		}
		taken(t, p, s)
	}
}

// P4.2, R3: one part of a packet that may be is changed to what may not.
func TestEncodeTellsWhatMayNotBe(t *testing.T) {
	_, whole := small(t, 6)
	for i, change := range []func(p *api.V4){
		func(p *api.V4) { p.Id = -1 },
		func(p *api.V4) { p.Id = 65536 },
		func(p *api.V4) { p.Id = math.MinInt },
		func(p *api.V4) { p.Id = math.MaxInt },
		func(p *api.V4) { p.Ttl = -1 },
		func(p *api.V4) { p.Ttl = 256 },
		func(p *api.V4) { p.Ttl = math.MaxInt },
		func(p *api.V4) { p.Proto = -1 },
		func(p *api.V4) { p.Proto = 256 },
		func(p *api.V4) { p.Proto = math.MinInt },
		func(p *api.V4) { p.Src = "" },
		func(p *api.V4) { p.Src = "abc" },
		func(p *api.V4) { p.Src = "abcde" },
		func(p *api.V4) { p.Src = "0123456789abcdef" },
		func(p *api.V4) { p.Dst = "" },
		func(p *api.V4) { p.Dst = "abc" },
		func(p *api.V4) { p.Dst = "abcde" },
		func(p *api.V4) { p.Dst = "0123456789abcdef" },
		func(p *api.V4) { p.Src, p.Dst = "abc", "abcde" },
		func(p *api.V4) { p.Options = "a" },
		func(p *api.V4) { p.Options = "ab" },
		func(p *api.V4) { p.Options = "abc" },
		func(p *api.V4) { p.Options = strings.Repeat("o", 39) },
		func(p *api.V4) { p.Options = strings.Repeat("o", 41) },
		func(p *api.V4) { p.Options = strings.Repeat("o", 44) },
		func(p *api.V4) { p.Options = strings.Repeat("o", 400) },
		func(p *api.V4) { p.Data = strings.Repeat("d", 65535-24+1) },
		func(p *api.V4) { p.Options, p.Data = "", strings.Repeat("d", 65535-20+1) },
		func(p *api.V4) {
			p.Options, p.Data = strings.Repeat("o", 40), strings.Repeat("d", 65535-60+1)
		},
		func(p *api.V4) { p.Data = strings.Repeat("d", 200000) },
		func(p *api.V4) { *p = api.V4{} },
	} {
		p := whole
		change(&p)
		if s, e := ipv4.Encode(p); s != "" || e != api.ErrArg {
			t.Errorf("case %d: %d bytes, %d", i, len(s), e)
		}
	}
}

// P4.3: options that end, that stand alone, and with lengths; one that asks, wherever it stands.
func TestAlert(t *testing.T) {
	for s, want := range map[string]bool{
		"":                                    false,
		alert:                                 true,
		"\x01\x01\x00\x94":                    false,
		"\x00":                                false,
		"\x01":                                false,
		"\x01\x01\x01\x01":                    false,
		"\x00" + alert:                        false,
		"\x01" + alert:                        true,
		"\x01\x01\x01\x01\x01" + alert:        true,
		alert + "\x00":                        true,
		alert + "\x01":                        true,
		alert + alert:                         true,
		alert + "\x00\x07":                    true,
		alert + "\x00\x07\x01":                true,
		"\x00\x07\x00":                        false,
		"\x00\x94":                            false,
		"\x07\x02":                            false,
		"\x07\x02" + alert:                    true,
		"\x07\x02\x00" + alert:                false,
		"\x07\x03x" + alert:                   true,
		"\x07\x03\x00" + alert:                true,
		"\x07\x06" + alert:                    false,
		"\x07\x06" + alert + alert:            true,
		"\x07\x03" + alert[:1] + alert:        true,
		"\x94\x02":                            false,
		"\x94\x03\x00":                        false,
		"\x94\x02\x00\x00":                    false,
		"\x94\x04\x00\x01":                    false,
		"\x94\x04\x01\x00":                    false,
		"\x94\x04\xff\xff" + alert:            true,
		"\x94\x05\x00\x00\x00":                false,
		"\x94\x06\x00\x00\x00\x00":            false,
		"\x14\x04\x00\x00":                    false,
		"\x95\x04\x00\x00":                    false,
		alert + "\x94\x04\x00\x01":            true,
		"\x02\x02\xff\x02\x80\x02":            false,
		"\x02\x02\xff\x02\x80\x02" + alert:    true,
		"\x07\xff" + strings.Repeat("o", 253): false,
		"\x07\xff" + strings.Repeat("o", 253) + alert: true,
	} {
		if is, e := ipv4.Alert(s); is != want || e != api.OK {
			t.Errorf("%x: %t, %d", s, is, e)
		}
	}
}

// P4.3, R3: lengths that are missing, too small and too great, first or behind others, and behind one that asks.
func TestAlertTellsWrongLengths(t *testing.T) {
	for _, s := range []string{
		"\x94",
		"\x94\x00",
		"\x94\x01",
		"\x94\x03",
		"\x94\x04",
		"\x94\x04\x00",
		"\x94\x05\x00\x00",
		"\x94\x01\x00\x00",
		"\x94\x00\x00\x00",
		"\x07",
		"\x07\x00",
		"\x07\x01",
		"\x07\x03",
		"\x07\x05ab",
		"\x07\xff" + strings.Repeat("o", 252),
		"\x02",
		"\xff",
		"\xff\xff",
	} {
		for _, ahead := range []string{"", "\x01", "\x01\x01\x01", "\x07\x02", "\x07\x03\x00", alert, alert + "\x01"} {
			if is, e := ipv4.Alert(ahead + s); is || e != api.ErrForm {
				t.Errorf("%x: %t, %d", ahead+s, is, e)
			}
			if is, e := ipv4.Alert(ahead + "\x00" + s); is != strings.HasPrefix(ahead, alert) || e != api.OK {
				t.Errorf("%x, ended: %t, %d", ahead, is, e)
			}
		}
	}
}

// P4.3: each first byte there is, alone and with a length.
func TestAlertOfEachOption(t *testing.T) {
	for first := range 256 {
		one := string([]byte{byte(first)})
		want := api.ErrForm
		if first <= 1 {
			want = api.OK
		}
		if is, e := ipv4.Alert(one); is || e != want {
			t.Errorf("%d alone: %t, %d", first, is, e)
		}
		for n := range 6 {
			text := one + string([]byte{byte(n), 0, 0})
			want := api.OK
			if first > 1 && (n < 2 || n > 4) || first == 1 && n > 1 {
				want = api.ErrForm
			}
			if is, e := ipv4.Alert(text); is != (text == alert) || e != want {
				t.Errorf("%x: %t, %d", text, is, e)
			}
		}
	}
}

// P4.4: what was encoded is decoded.
func TestWhatWasEncodedIsDecoded(t *testing.T) {
	for _, id := range []int{0, 1, 255, 256, 65534, 65535} {
		for _, one := range []int{0, 1, 127, 128, 254, 255} {
			for words := range 11 {
				p := api.V4{Id: id, Ttl: one, Proto: 255 - one, Src: src, Dst: dst, Options: strings.Repeat("\xff\x00\xee\x94", words), Data: strings.Repeat("d", id%300)}
				s := encoded(t, p)
				taken(t, p, s, s+"x")
				p.Src, p.Dst = p.Dst, p.Src
				taken(t, p, encoded(t, p))
			}
		}
	}
}

// P4.4: each bit of a head but those of its first byte, in the least, the greatest and other heads.
func TestOneBitOfAHeadIsTold(t *testing.T) {
	for words := 5; words <= 15; words++ {
		s, _ := small(t, words)
		for bit := 8; bit < 32*words; bit++ {
			b := []byte(s)
			b[bit/8] ^= 1 << (bit % 8)
			refused(t, api.ErrSum, string(b), string(b[:4*words]))
		}
	}
}

// R1: whatever bytes there are, Decode and Alert end, and what Decode takes may be.
func TestNoBytesAreTooMuch(t *testing.T) {
	seed := uint32(5)
	for words := 5; words <= 15; words++ {
		s, _ := small(t, words)
		for range 3000 {
			b := []byte(s)
			for range 2 {
				seed = seed*1664525 + 1013904223
				b[seed>>8%uint32(len(b))] = byte(seed >> 24)
			}
			text := changed(t, "\x45"+string(b[1:]), 1, "\x00")
			p, e := ipv4.Decode(text)
			if e != api.OK {
				refused(t, e, text)
				continue
			}
			taken(t, p, encoded(t, p))
			if is, e := ipv4.Alert(text); is && e != api.OK {
				t.Errorf("%x: asks beside %d", text, e)
			}
		}
	}
}

// R5: a part that shared the packet's memory would keep all of it.
func TestDecodeAnswersNewMemory(t *testing.T) {
	for s := range packets() {
		s += "padding"
		p, _ := ipv4.Decode(s)
		for _, part := range []string{string(p.Src), string(p.Dst), p.Options, p.Data} {
			if inside(part, s) {
				t.Errorf("%x: %x shares its memory", s, part)
			}
		}
	}
}

// inside tells whether part's bytes stand where s keeps its own.
func inside(part string, s string) bool {
	if part == "" {
		return false
	}
	at := uintptr(unsafe.Pointer(unsafe.StringData(part)))
	first := uintptr(unsafe.Pointer(unsafe.StringData(s)))
	return first <= at && at < first+uintptr(len(s))
}
