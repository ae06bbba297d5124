package ipv6_test

import (
	"fmt"
	"math"
	"strings"
	"testing"
	"unsafe"

	"siphon/api"
	"siphon/ipv6"
)

const (
	src   = "\xfe\x80\x00\x00\x00\x00\x00\x00\x02\x0a\x0b\xff\xfe\x0c\x0d\x0e"
	dst   = "\xff\x02\x00\x00\x00\x00\x00\x00\x00\x00\x00\x00\x00\x00\x00\x16"
	none  = "\x00\x00\x00\x00\x00\x00\x00\x00\x00\x00\x00\x00\x00\x00\x00\x00"
	all   = "\xff\xff\xff\xff\xff\xff\xff\xff\xff\xff\xff\xff\xff\xff\xff\xff"
	alert = "\x05\x02\x00\x00"
)

// packets are such as may be, with the bytes that they stand in, as told by hand.
func packets() map[string]api.V6 {
	return map[string]api.V6{
		"\x60\x00\x00\x00\x00\x0d\x00\x01" + src + dst + "\x3a\x00\x05\x02\x00\x00\x01\x00hello": {
			Hop: 1, Next: 58, Src: src, Dst: dst, Alert: true, Data: "hello"},
		"\x60\x00\x00\x00\x00\x05\x3a\x40" + src + dst + "hello": {
			Hop: 64, Next: 58, Src: src, Dst: dst, Data: "hello"},
		"\x60\x00\x00\x00\x00\x00\x01\x00" + none + none: {
			Next: 1, Src: none, Dst: none},
		"\x60\x00\x00\x00\x00\x08\x00\xff" + all + all + "\xff\x00\x05\x02\x00\x00\x01\x00": {
			Hop: 255, Next: 255, Src: all, Dst: all, Alert: true},
		"\x60\x00\x00\x00\x00\x02\xff\xff" + all + none + "\x00\x01": {
			Hop: 255, Next: 255, Src: all, Dst: none, Data: "\x00\x01"},
		"\x60\x00\x00\x00\x00\x08\x3a\x01" + src + dst + "\x3a\x00\x05\x02\x00\x00\x01\x00": {
			Hop: 1, Next: 58, Src: src, Dst: dst, Data: "\x3a\x00\x05\x02\x00\x00\x01\x00"},
	}
}

// headed is what stands behind the head, with a head that tells how many bytes it has, and what stands next.
func headed(next int, behind string) string {
	n := len(behind)
	return "\x60\x00\x00\x00" + string([]byte{byte(n >> 8), byte(n), byte(next), 9}) + src + dst + behind
}

// part is one for each router that tells n and has these options, filled up with bytes 0.
func part(next int, n int, options string) string {
	return string([]byte{byte(next), byte(n)}) + options + strings.Repeat("\x00", 8*n+6-len(options))
}

// shown is a packet as a test tells it, with no more of its Data than can be read.
func shown(p api.V6) string {
	p.Data = p.Data[:min(len(p.Data), 60)]
	return fmt.Sprintf("%#v", p)
}

// encoded is the bytes of a packet that may be.
func encoded(t *testing.T, p api.V6) string {
	t.Helper()
	s, e := ipv6.Encode(p)
	if e != api.OK {
		t.Fatalf("%s: %d", shown(p), e)
	}
	return s
}

// refused tells of each text that Decode must refuse it so, with no packet.
func refused(t *testing.T, want api.Errno, l ...string) {
	t.Helper()
	for i, s := range l {
		if p, e := ipv6.Decode(s); p != (api.V6{}) || e != want {
			t.Errorf("case %d, of %d bytes, %.60x: %s, %d", i, len(s), s, shown(p), e)
		}
	}
}

// taken tells of each text that Decode must read it as that packet.
func taken(t *testing.T, want api.V6, l ...string) {
	t.Helper()
	for i, s := range l {
		if p, e := ipv6.Decode(s); p != want || e != api.OK {
			t.Errorf("case %d, of %d bytes, %.60x: %s, %d", i, len(s), s, shown(p), e)
		}
	}
}

// P5.2, P5.3, R4: each part where it belongs, with and without one for each router.
func TestPacketsAreReadAndWritten(t *testing.T) {
	for s, want := range packets() {
		taken(t, want, s)
		if b := encoded(t, want); b != s {
			t.Errorf("%x: written %x", s, b)
		}
	}
}

// P5.1: options of which none asks, of which one does, and how it must stand to count.
func TestOptions(t *testing.T) {
	for s, want := range map[string]bool{
		"":                                    false,
		alert:                                 true,
		alert + "\x01\x00":                    true,
		"\x01\x00":                            false,
		"\x00":                                false,
		"\x00\x00\x00":                        false,
		"\x00" + alert:                        true,
		"\x00\x00\x00" + alert:                true,
		"\x01\x00" + alert:                    true,
		"\x01\x02\x00\x00" + alert:            true,
		"\x01\x03\x00\x00" + alert:            false,
		"\x01\x04" + alert:                    false,
		"\x01\x04" + alert + alert:            true,
		alert + alert:                         true,
		alert + "\x00":                        true,
		alert + "\x05\x02\x00\x01":            true,
		"\x05\x02\x00\x01" + alert:            true,
		"\x05\x02\x00\x01":                    false,
		"\x05\x02\x01\x00":                    false,
		"\x05\x02\xff\xff":                    false,
		"\x3e\x01\x00":                        false,
		"\x3e\x00" + alert:                    true,
		"\x02\x02\x00\x00":                    false,
		"\x04\x02\x00\x00":                    false,
		"\x06\x02\x00\x00":                    false,
		"\x25\x02\x00\x00":                    false,
		"\x06\x01" + alert:                    false,
		"\x06\xff" + strings.Repeat("o", 255): false,
		"\x06\xff" + strings.Repeat("o", 255) + alert: true,
		"\x01\xff" + strings.Repeat("\xff", 255):      false,
	} {
		if is, e := ipv6.Options(s); is != want || e != api.OK {
			t.Errorf("%x: %t, %d", s, is, e)
		}
	}
}

// P5.1, R3: options of which bytes are lacking, and such as may not stand, first or behind others, and behind one that asks.
func TestOptionsTellsWhatIsWrong(t *testing.T) {
	for _, s := range []string{
		"\x01",
		"\x05",
		"\x06",
		"\xff",
		"\x01\x01",
		"\x01\x02\x00",
		"\x01\xff" + strings.Repeat("\x00", 254),
		"\x05\x02",
		"\x05\x02\x00",
		"\x05\x00",
		"\x05\x01\x00",
		"\x05\x03\x00\x00\x00",
		"\x05\x04\x00\x00\x00\x00",
		"\x05\x00\x00\x00",
		"\x3e\x01",
		"\xc2\x01\x00",
		"\x40\x00",
		"\x80\x00",
		"\xc0\x00",
		"\x41\x00",
		"\x85\x02\x00\x00",
		"\x45\x02\x00\x00",
		"\xc5\x02\x00\x00",
	} {
		for _, ahead := range []string{"", "\x00", "\x00\x00", "\x01\x00", "\x06\x01\x05", alert, alert + "\x00", alert + "\x01\x00"} {
			if is, e := ipv6.Options(ahead + s); is || e != api.ErrForm {
				t.Errorf("%x: %t, %d", ahead+s, is, e)
			}
		}
	}
}

// P5.1: each first byte there is, with each n, the bytes that belong to it, one less, and others behind it.
func TestOptionsOfEachKindAndLength(t *testing.T) {
	for kind := 1; kind < 256; kind++ {
		want := api.OK
		if kind >= 64 {
			want = api.ErrForm
		}
		for n := range 256 {
			if kind == 5 && n != 2 {
				want = api.ErrForm
			} else if kind == 5 {
				want = api.OK
			}
			s := string([]byte{byte(kind), byte(n)}) + strings.Repeat("\x00", n)
			if is, e := ipv6.Options(s); is != (s == alert) || e != want {
				t.Errorf("%x: %t, %d", s, is, e)
			}
			if is, e := ipv6.Options(s[:len(s)-1]); is || e != api.ErrForm {
				t.Errorf("%x, cut: %t, %d", s, is, e)
			}
			if is, e := ipv6.Options(s + alert); is != (want == api.OK) || e != want {
				t.Errorf("%x, and one that asks: %t, %d", s, is, e)
			}
		}
	}
}

// told is P5.1 by its words: the first option, and then what is told of the others.
func told(s string) (bool, api.Errno) {
	if s == "" {
		return false, api.OK
	}
	if s[0] == 0 {
		return told(s[1:])
	}
	if len(s) < 2 || len(s) < 2+int(s[1]) {
		return false, api.ErrForm
	}
	if s[0] != 1 && s[0] != 5 && s[0]&0xc0 != 0 || s[0] == 5 && s[1] != 2 {
		return false, api.ErrForm
	}
	n := 2 + int(s[1])
	is, e := told(s[n:])
	return e == api.OK && (is || s[:n] == alert), e
}

// P5.1: all options of at most seven bytes of those that count.
func TestOptionsOfAllShortTexts(t *testing.T) {
	var try func(s string)
	try = func(s string) {
		want, wrong := told(s)
		if is, e := ipv6.Options(s); is != want || e != wrong {
			t.Errorf("%x: %t, %d, not %t, %d", s, is, e, want, wrong)
		}
		if len(s) == 7 {
			return
		}
		for _, next := range []string{"\x00", "\x01", "\x02", "\x05", "\x3f", "\x80"} {
			try(s + next)
		}
	}
	try("")
}

// P5.2: 39 bytes are too few, 40 enough; so with all that is told of behind them.
func TestDecodeTellsMissingBytes(t *testing.T) {
	for s, want := range packets() {
		for n := range s {
			refused(t, api.ErrCut, s[:n])
		}
		taken(t, want, s)
	}
	bare := api.V6{Hop: 9, Next: 59, Src: src, Dst: dst}
	s := headed(59, "")
	if len(s) != 40 {
		t.Fatalf("%d bytes", len(s))
	}
	taken(t, bare, s)
	refused(t, api.ErrCut, s[:39], "")
}

// P5.2, R2: a first byte that is wrong counts for nothing where there are fewer than 40 bytes, but ahead of all that stands behind them. Its lower bits, and the three bytes behind it, are free.
func TestDecodeTellsTheFirstBits(t *testing.T) {
	want := api.V6{Hop: 9, Next: 58, Src: src, Dst: dst, Data: "data"}
	s := headed(58, "data")
	inside := headed(0, part(0, 0, "\x05\x01"))
	for first := range 256 {
		one := string([]byte{byte(first)})
		text := one + s[1:]
		refused(t, api.ErrCut, text[:39], text[:1])
		if first/16 != 6 {
			refused(t, api.ErrForm, text, text[:40], text[:43], one+inside[1:], one+inside[1:40])
			continue
		}
		refused(t, api.ErrCut, text[:40], text[:43], one+inside[1:40])
		for free := range 256 {
			b := string([]byte{byte(free)})
			taken(t, want, one+b+s[2:], one+"\x00"+b+s[3:], one+"\x00\x00"+b+s[4:], one+b+b+b+s[4:])
		}
	}
}

// P5.2: how many bytes stand behind the head: as told, though more are there; one more than there are.
func TestDecodeTellsTheLength(t *testing.T) {
	data := strings.Repeat("data", 300)
	for n := range 601 {
		whole := headed(17, data[:n])
		want := api.V6{Hop: 9, Next: 17, Src: src, Dst: dst, Data: data[:n]}
		taken(t, want, whole, whole+"d", whole+data, whole+whole)
		if n > 0 {
			refused(t, api.ErrCut, whole[:len(whole)-1], whole[:40])
		}
	}
	for _, n := range []int{65527, 65528, 65534, 65535} {
		data := strings.Repeat("d", n)
		whole := headed(17, data)
		taken(t, api.V6{Hop: 9, Next: 17, Src: src, Dst: dst, Data: data}, whole, whole+"d")
		refused(t, api.ErrCut, whole[:len(whole)-1])
	}
}

// P5.2: Next is what stands there, if it is not 0; Data that looks like a part for each router is Data.
func TestDecodeTellsWhatStandsNext(t *testing.T) {
	looks := part(0, 0, "\x05\x01")
	for next := 1; next < 256; next++ {
		taken(t, api.V6{Hop: 9, Next: next, Src: src, Dst: dst, Data: looks}, headed(next, looks))
		taken(t, api.V6{Hop: 9, Next: next, Src: src, Dst: dst}, headed(next, ""), headed(0, part(next, 0, "")))
		taken(t, api.V6{Hop: 9, Next: next, Src: src, Dst: dst, Alert: true, Data: looks}, headed(0, part(next, 0, alert)+looks))
	}
}

// P5.2: parts for each router with n of 0, 1, 255 and others, with and without Data behind them.
func TestDecodeReadsThePartForEachRouter(t *testing.T) {
	for _, n := range []int{0, 1, 2, 3, 127, 128, 254, 255} {
		for _, data := range []string{"", "d", "data", "\x00\x00", strings.Repeat("x", 9000)} {
			for options, asks := range map[string]bool{
				"":                                    false,
				alert:                                 true,
				"\x00\x00" + alert:                    true,
				alert + "\x01\x00":                    true,
				"\x01\x00" + alert:                    true,
				"\x01\x04\x00\x00\x00\x00":            false,
				"\x05\x02\x00\x01":                    false,
				"\x3f\x04\x05\x02\x00\x00":            false,
				alert + "\x06\x00":                    true,
				strings.Repeat("\x00", 8*n+6):         false,
				strings.Repeat("\x01\x00", 3):         false,
				strings.Repeat("\x00", 8*n+2) + alert: true,
			} {
				s := headed(0, part(58, n, options)+data)
				taken(t, api.V6{Hop: 9, Next: 58, Src: src, Dst: dst, Alert: asks, Data: data}, s, s+"padding", s+alert)
			}
		}
	}
}

// P5.2: the greatest packet with a part for each router; its Data has at most 65527 bytes.
func TestDecodeReadsTheGreatestPart(t *testing.T) {
	for _, n := range []int{0, 1, 255} {
		data := strings.Repeat("d", 65535-8*n-8)
		s := headed(0, part(58, n, alert)+data)
		taken(t, api.V6{Hop: 9, Next: 58, Src: src, Dst: dst, Alert: true, Data: data}, s, s+"d")
		refused(t, api.ErrCut, s[:len(s)-1])
	}
}

// P5.2, R2: a part that does not stand whole in what is told of, though more bytes are there, is told ahead of what is wrong in it.
func TestDecodeTellsAPartThatIsCut(t *testing.T) {
	for _, n := range []int{0, 1, 2, 255} {
		for _, next := range []int{0, 58} {
			for _, options := range []string{"", alert, "\x05\x01", "\xc2\x01"} {
				whole := part(next, n, options)
				for size := range len(whole) {
					s := headed(0, whole[:size])
					refused(t, api.ErrCut, s, s+whole[size:], s+whole)
				}
			}
		}
	}
}

// P5.2: what is told of the head's end comes ahead of the part.
func TestDecodeTellsTheHeadAheadOfThePart(t *testing.T) {
	for _, behind := range []string{part(0, 0, ""), part(58, 0, "\x05\x01"), part(58, 9, "")[:8]} {
		s := headed(0, behind)
		refused(t, api.ErrCut, s[:len(s)-1], s[:40])
		refused(t, api.ErrForm, "\x50"+s[1:])
	}
}

// P5.2, R3: a part behind which 0 stands next, and one with wrong options, of each n.
func TestDecodeTellsAPartThatIsWrong(t *testing.T) {
	for _, n := range []int{0, 1, 255} {
		for _, data := range []string{"", "data", part(58, 0, alert)} {
			for _, options := range []string{"", alert, "\x05\x01"} {
				refused(t, api.ErrForm, headed(0, part(0, n, options)+data))
			}
			for _, options := range []string{
				"\x05\x01",
				"\x05\x03",
				"\x05\x00",
				"\x40\x00",
				"\x80\x00",
				"\xc0\x00",
				"\xc2\x01",
				alert + "\xc2\x00",
				alert + "\x05\x00",
				strings.Repeat("\x00", 8*n+5) + "\x01",
				strings.Repeat("\x00", 8*n+5) + "\x05",
				strings.Repeat("\x00", 8*n+4) + "\x01\x01",
				strings.Repeat("\x00", 8*n+3) + "\x05\x02\x00",
			} {
				refused(t, api.ErrForm, headed(0, part(58, n, options)+data), headed(0, part(0, n, options)+data))
			}
		}
	}
}

// P5.3: Data of 65527 bytes, with a part for each router and without one.
func TestEncodeTakesTheGreatest(t *testing.T) {
	p := api.V6{Hop: 255, Next: 255, Src: src, Dst: dst, Data: strings.Repeat("d", 65527)}
	s := encoded(t, p)
	if len(s) != 40+65527 || s[:8] != "\x60\x00\x00\x00\xff\xf7\xff\xff" {
		t.Errorf("%d bytes, %x", len(s), s[:8])
	}
	taken(t, p, s, s+"d")
	p.Alert = true
	s = encoded(t, p)
	if len(s) != 40+65535 || s[:8] != "\x60\x00\x00\x00\xff\xff\x00\xff" || s[40:48] != "\xff\x00"+alert+"\x01\x00" {
		t.Errorf("%d bytes, %x", len(s), s[:48])
	}
	taken(t, p, s, s+"d")
}

// P5.3, R3: one part of a packet that may be is changed to what may not.
func TestEncodeTellsWhatMayNotBe(t *testing.T) {
	for i, change := range []func(p *api.V6){
		func(p *api.V6) { p.Hop = -1 },
		func(p *api.V6) { p.Hop = 256 },
		func(p *api.V6) { p.Hop = math.MinInt },
		func(p *api.V6) { p.Hop = math.MaxInt },
		func(p *api.V6) { p.Next = 0 },
		func(p *api.V6) { p.Next = -1 },
		func(p *api.V6) { p.Next = 256 },
		func(p *api.V6) { p.Next = math.MinInt },
		func(p *api.V6) { p.Next = math.MaxInt },
		func(p *api.V6) { p.Src = "" },
		func(p *api.V6) { p.Src = "abcd" },
		func(p *api.V6) { p.Src = p.Src[1:] },
		func(p *api.V6) { p.Src = src + "\x00" },
		func(p *api.V6) { p.Dst = "" },
		func(p *api.V6) { p.Dst = "abcd" },
		func(p *api.V6) { p.Dst = p.Dst[1:] },
		func(p *api.V6) { p.Dst = dst + "\x00" },
		func(p *api.V6) { p.Src, p.Dst = p.Src[1:], p.Dst+"\x00" },
		func(p *api.V6) { p.Data = strings.Repeat("d", 65528) },
		func(p *api.V6) { p.Data = strings.Repeat("d", 65535) },
		func(p *api.V6) { p.Data = strings.Repeat("d", 65536) },
		func(p *api.V6) { p.Data = strings.Repeat("d", 200000) },
		func(p *api.V6) { *p = api.V6{Alert: p.Alert} },
	} {
		for _, asks := range []bool{false, true} {
			p := api.V6{Hop: 1, Next: 58, Src: src, Dst: dst, Alert: asks, Data: "data"}
			change(&p)
			if s, e := ipv6.Encode(p); s != "" || e != api.ErrArg {
				t.Errorf("case %d: %d bytes, %d", i, len(s), e)
			}
		}
	}
}

// P5.4: what was encoded is decoded, whatever stands behind it.
func TestWhatWasEncodedIsDecoded(t *testing.T) {
	for _, hop := range []int{0, 1, 127, 128, 254, 255} {
		for next := 1; next < 256; next++ {
			for _, asks := range []bool{false, true} {
				for _, data := range []string{"", "\x00", "\x05", alert, part(0, 0, "\xc2"), strings.Repeat("d", 3*next)} {
					p := api.V6{Hop: hop, Next: next, Src: src, Dst: dst, Alert: asks, Data: data}
					s := encoded(t, p)
					taken(t, p, s, s+"\x00", s+alert, s+s)
					p.Src, p.Dst = p.Dst, p.Src
					taken(t, p, encoded(t, p))
				}
			}
		}
	}
}

// R1: whatever bytes there are, Decode and Options end, and what Decode takes is taken again.
func TestNoBytesAreTooMuch(t *testing.T) {
	seed := uint32(6)
	read := 0
	for _, n := range []int{0, 1, 2, 255} {
		for _, s := range []string{headed(0, part(58, n, alert)+"data"), headed(0, part(58, n, "\x01\x02\x07\x3e\x06\x00")+"data")} {
			for range 4000 {
				b := []byte(s)
				for range 3 {
					seed = seed*1664525 + 1013904223
					at := seed >> 8 % uint32(len(b))
					if seed>>7%2 == 0 {
						at = 40 + at%8
					}
					b[at] = byte(seed >> 24 % 9)
				}
				b[0] = 0x60
				text := string(b)
				if is, want := ipv6.Options(text); is && want != api.OK {
					t.Errorf("%x: asks beside %d", text, want)
				}
				p, e := ipv6.Decode(text)
				if e != api.OK {
					refused(t, e, text)
					continue
				}
				if p.Next == 0 {
					t.Errorf("%x: nothing stands next", text)
				}
				taken(t, p, encoded(t, p))
				read++
			}
		}
	}
	if read == 0 {
		t.Error("none was read")
	}
}

// R5: a part that shared the packet's memory would keep all of it.
func TestDecodeAnswersNewMemory(t *testing.T) {
	for s := range packets() {
		s += "padding"
		p, _ := ipv6.Decode(s)
		for _, part := range []string{string(p.Src), string(p.Dst), p.Data} {
			if inside(part, s) {
				t.Errorf("%x: %x shares its memory", s, part)
			}
		}
	}
}

// inside tells whether part's bytes stand where s keeps its own.
func inside(part string, s string) bool {
	if part == "" {
		return false
	}
	at := uintptr(unsafe.Pointer(unsafe.StringData(part)))
	first := uintptr(unsafe.Pointer(unsafe.StringData(s)))
	return first <= at && at < first+uintptr(len(s))
}
