package ether_test

import (
	"math"
	"strings"
	"testing"
	"unsafe"

	"siphon/api"
	"siphon/ether"
)

const (
	dst = "\x01\x00\x5e\x01\x02\x03"
	src = "\x02\x0a\x0b\x0c\x0d\x0e"
)

// frames are such as may be, with the bytes that they stand in.
func frames() map[string]api.Frame {
	most := strings.Repeat("x", 2000)
	return map[string]api.Frame{
		dst + src + "\x08\x00xyz":                  {Dst: dst, Src: src, Type: 0x800, Data: "xyz"},
		src + dst + "\x86\xdd":                     {Dst: src, Src: dst, Type: 0x86dd},
		dst + src + "\x00\x00\x00":                 {Dst: dst, Src: src, Data: "\x00"},
		dst + src + "\xff\xff" + most:              {Dst: dst, Src: src, Type: 65535, Data: most},
		dst + src + "\x80\xff\x81\x00":             {Dst: dst, Src: src, Type: 0x80ff, Data: "\x81\x00"},
		dst + src + "\x81\x01z":                    {Dst: dst, Src: src, Type: 0x8101, Data: "z"},
		dst + src + "\x81\x00\xa0\x0a\x86\xdd":     {Dst: dst, Src: src, Tagged: true, Vlan: 10, Prio: 5, Type: 0x86dd},
		dst + src + "\x81\x00\x00\x00\x00\x00":     {Dst: dst, Src: src, Tagged: true},
		dst + src + "\x81\x00\x00\x01\x08\x00a":    {Dst: dst, Src: src, Tagged: true, Vlan: 1, Type: 0x800, Data: "a"},
		dst + src + "\x81\x00\xef\xfe\xff\xff":     {Dst: dst, Src: src, Tagged: true, Vlan: 4094, Prio: 7, Type: 65535},
		dst + src + "\x81\x00\x20\x64\x81\x00\x0f": {Dst: dst, Src: src, Tagged: true, Vlan: 100, Prio: 1, Type: 0x8100, Data: "\x0f"},
		dst + src + "\x81\x00\x01\x00\x08\x00" + most: {
			Dst: dst, Src: src, Tagged: true, Vlan: 256, Type: 0x800, Data: most},
	}
}

// refused tells of each text that Decode must refuse it so, with no frame.
func refused(t *testing.T, want api.Errno, l ...string) {
	t.Helper()
	for i, s := range l {
		if f, e := ether.Decode(s); f != (api.Frame{}) || e != want {
			t.Errorf("case %d, of %d bytes: %#v, %d", i, len(s), f, e)
		}
	}
}

// P3.1, P3.2, R4: each part where it belongs, with and without a tag, at the edges of each.
func TestFramesAreReadAndWritten(t *testing.T) {
	for s, want := range frames() {
		if f, e := ether.Decode(s); f != want || e != api.OK {
			t.Errorf("%.40x: %#v, %d", s, f, e)
		}
		if b, e := ether.Encode(want); b != s || e != api.OK {
			t.Errorf("%.40x: written %.40x, %d", s, b, e)
		}
	}
}

// P3.1: fewer than 14 bytes, and fewer than 18 where there is a tag; one more is enough.
func TestDecodeTellsMissingBytes(t *testing.T) {
	for s, want := range map[string]api.Frame{
		dst + src + "\x08\x00":                 {Dst: dst, Src: src, Type: 0x800},
		dst + src + "\x08\x00\x81\x00\x08":     {Dst: dst, Src: src, Type: 0x800, Data: "\x81\x00\x08"},
		dst + src + "\x00\x81\x00":             {Dst: dst, Src: src, Type: 0x81, Data: "\x00"},
		dst + src + "\x81\x00\x00\x07\x08\x06": {Dst: dst, Src: src, Tagged: true, Vlan: 7, Type: 0x806},
	} {
		if f, e := ether.Decode(s); f != want || e != api.OK {
			t.Errorf("%x: %#v, %d", s, f, e)
		}
		least := 14
		if want.Tagged {
			least = 18
		}
		for n := range least {
			refused(t, api.ErrCut, s[:n])
		}
	}
}

// P3.1, R2: a tag that is wrong counts for nothing where bytes are missing.
func TestMissingBytesAreToldFirst(t *testing.T) {
	for _, tag := range []string{"\x10\x01", "\x0f\xff", "\xff\xff"} {
		s := dst + src + "\x81\x00" + tag + "\x08\x00"
		refused(t, api.ErrCut, s[:17], s[:16])
		refused(t, api.ErrForm, s, s+"x")
	}
}

// P3.1: of each tag there is, whether it is read, and how.
func TestDecodeReadsEachTag(t *testing.T) {
	for n := range 1 << 16 {
		s := dst + src + "\x81\x00" + string([]byte{byte(n >> 8), byte(n)}) + "\x08\x00d"
		want, wrong := api.Frame{}, api.ErrForm
		if n/4096%2 == 0 && n%4096 <= 4094 {
			want, wrong = api.Frame{Dst: dst, Src: src, Tagged: true, Vlan: n % 4096, Prio: n / 8192, Type: 0x800, Data: "d"}, api.OK
		}
		if f, e := ether.Decode(s); f != want || e != wrong {
			t.Fatalf("%04x: %#v, %d", n, f, e)
		}
	}
}

// P3.1: Data of 2000 bytes, and of one more, with and without a tag.
func TestDecodeTellsDataThatIsTooLong(t *testing.T) {
	for _, head := range []string{dst + src + "\x08\x00", dst + src + "\x81\x00\x00\x07\x08\x00"} {
		for _, n := range []int{1999, 2000} {
			data := strings.Repeat("d", n)
			if f, e := ether.Decode(head + data); f.Data != data || e != api.OK {
				t.Errorf("%d bytes behind %x: %d, %d", n, head, len(f.Data), e)
			}
		}
		refused(t, api.ErrForm, head+strings.Repeat("d", 2001), head+strings.Repeat("d", 2004), head+strings.Repeat("d", 70000))
	}
}

// P3.2, R3: one part of a frame that may be is changed to what may not, with and without a tag.
func TestEncodeTellsWhatMayNotBe(t *testing.T) {
	plain := api.Frame{Dst: dst, Src: src, Type: 0x800, Data: "d"}
	tagged := api.Frame{Dst: dst, Src: src, Tagged: true, Vlan: 1, Prio: 1, Type: 0x800, Data: "d"}
	for i, change := range []func(f *api.Frame){
		func(f *api.Frame) { f.Dst = "" },
		func(f *api.Frame) { f.Dst = api.Mac(dst[1:]) },
		func(f *api.Frame) { f.Dst = dst + "x" },
		func(f *api.Frame) { f.Src = "" },
		func(f *api.Frame) { f.Src = api.Mac(src[1:]) },
		func(f *api.Frame) { f.Src = src + "x" },
		func(f *api.Frame) { f.Dst, f.Src = api.Mac(dst[1:]), src+"x" },
		func(f *api.Frame) { f.Vlan = -1 },
		func(f *api.Frame) { f.Vlan = 4095 },
		func(f *api.Frame) { f.Vlan = 4096 },
		func(f *api.Frame) { f.Vlan = math.MinInt },
		func(f *api.Frame) { f.Prio = -1 },
		func(f *api.Frame) { f.Prio = 8 },
		func(f *api.Frame) { f.Prio = math.MaxInt },
		func(f *api.Frame) { f.Type = -1 },
		func(f *api.Frame) { f.Type = 65536 },
		func(f *api.Frame) { f.Type = math.MinInt },
		func(f *api.Frame) { f.Data = strings.Repeat("d", 2001) },
		func(f *api.Frame) { *f = api.Frame{Tagged: f.Tagged} },
	} {
		for _, f := range []api.Frame{plain, tagged} {
			change(&f)
			if s, e := ether.Encode(f); s != "" || e != api.ErrArg {
				t.Errorf("case %d, tagged %t: %x, %d", i, f.Tagged, s, e)
			}
		}
	}
}

// P3.2: what may be in a frame with a tag alone.
func TestEncodeWithoutATagTakesNoneOfItsParts(t *testing.T) {
	for i, f := range []api.Frame{
		{Dst: dst, Src: src, Vlan: 1, Type: 0x800},
		{Dst: dst, Src: src, Vlan: 4094, Type: 0x800},
		{Dst: dst, Src: src, Prio: 1, Type: 0x800},
		{Dst: dst, Src: src, Prio: 7, Type: 0x800},
		{Dst: dst, Src: src, Vlan: 1, Prio: 1, Type: 0x800},
		{Dst: dst, Src: src, Type: 0x8100},
		{Dst: dst, Src: src, Type: 0x8100, Data: "\x00\x01\x08\x00"},
	} {
		if s, e := ether.Encode(f); s != "" || e != api.ErrArg {
			t.Errorf("case %d: %x, %d", i, s, e)
		}
		f.Tagged = true
		if s, e := ether.Encode(f); len(s) != 18+len(f.Data) || e != api.OK {
			t.Errorf("case %d, with a tag: %x, %d", i, s, e)
		}
	}
}

// P3.3: the first byte alone tells it, of six bytes.
func TestMany(t *testing.T) {
	for first := range 256 {
		for _, rest := range []string{"\x00\x00\x00\x00\x00", "\x01\x01\x01\x01\x01", "\xff\xff\xff\xff\xfe"} {
			m := api.Mac([]byte{byte(first)}) + api.Mac(rest)
			if is := ether.Many(m); is != (first%2 == 1) {
				t.Errorf("%x: %t", m, is)
			}
		}
	}
	for n := range 20 {
		if is := ether.Many(api.Mac(strings.Repeat("\x01", n))); is != (n == 6) {
			t.Errorf("of %d bytes: %t", n, is)
		}
	}
}

// P3.3: which bytes of an address go into the group's, and which bits of the first of these.
func TestGroup(t *testing.T) {
	for a, want := range map[api.Addr]api.Mac{
		"\xe0\x01\x02\x03": "\x01\x00\x5e\x01\x02\x03",
		"\xef\x81\x02\x03": "\x01\x00\x5e\x01\x02\x03",
		"\xe0\x00\x00\x01": "\x01\x00\x5e\x00\x00\x01",
		"\xe0\x80\x80\x80": "\x01\x00\x5e\x00\x80\x80",
		"\xef\xff\xff\xff": "\x01\x00\x5e\x7f\xff\xff",
		"\xe7\x7f\x00\xff": "\x01\x00\x5e\x7f\x00\xff",
		"\xff\x02\x00\x00\x00\x00\x00\x00\x00\x00\x00\x00\x0a\x0b\x0c\x0d": "\x33\x33\x0a\x0b\x0c\x0d",
		"\xff\x02\x00\x00\x00\x00\x00\x00\x00\x00\x00\x00\x00\x00\x00\x01": "\x33\x33\x00\x00\x00\x01",
		"\xff\xff\xff\xff\xff\xff\xff\xff\xff\xff\xff\xff\xff\xfe\xfd\xfc": "\x33\x33\xff\xfe\xfd\xfc",
		"\xff\x00\x01\x02\x03\x04\x05\x06\x07\x08\x09\x0a\x80\x81\x82\x83": "\x33\x33\x80\x81\x82\x83",
	} {
		if m, e := ether.Group(a); m != want || e != api.OK {
			t.Errorf("%x: %x, %d", a, m, e)
		}
	}
}

// P3.3, P3.4, R3: which first bytes make a group; its address is one of many.
func TestGroupTellsWhatIsNoGroup(t *testing.T) {
	for first := range 256 {
		for rest, is := range map[string]bool{
			"\x01\x02\x03":          224 <= first && first <= 239,
			strings.Repeat("7", 15): first == 255,
		} {
			a := api.Addr([]byte{byte(first)}) + api.Addr(rest)
			m, e := ether.Group(a)
			if is && (e != api.OK || !ether.Many(m)) || !is && (e != api.ErrArg || m != "") {
				t.Errorf("%x: %x, %d", a, m, e)
			}
		}
	}
}

// P3.3, R3: addresses of other lengths, whatever they begin with.
func TestGroupTellsOtherLengths(t *testing.T) {
	for n := range 34 {
		if n == 4 || n == 16 {
			continue
		}
		for _, s := range []string{"\xe0", "\xff", "\x01"} {
			if m, e := ether.Group(api.Addr(strings.Repeat(s, n))); m != "" || e != api.ErrArg {
				t.Errorf("%d times %x: %x, %d", n, s, m, e)
			}
		}
	}
}

// P3.4: what was encoded is decoded, and so to the same bytes again; of all edges of all parts.
func TestWhatWasEncodedIsDecoded(t *testing.T) {
	for _, f := range cornered() {
		s, e := ether.Encode(f)
		if e != api.OK {
			t.Fatalf("%#v: %d", f, e)
		}
		back, e := ether.Decode(s)
		if back != f || e != api.OK {
			t.Errorf("%#v: back %#v, %d", f, back, e)
		}
		if again, e := ether.Encode(back); again != s || e != api.OK {
			t.Errorf("%#v: again %x, %d", f, again, e)
		}
	}
}

// cornered are frames with all edges of all parts, each with each.
func cornered() []api.Frame {
	var l []api.Frame
	for _, kind := range []int{0, 1, 0x80ff, 0x8100, 0x8101, 65535} {
		for _, n := range []int{0, 1, 4, 46, 2000} {
			data := strings.Repeat("\x81\x00", n)[:n]
			if kind != 0x8100 {
				l = append(l, api.Frame{Dst: dst, Src: src, Type: kind, Data: data})
			}
			for _, vlan := range []int{0, 1, 255, 256, 2048, 4094} {
				for prio := range 8 {
					l = append(l, api.Frame{Dst: src, Src: dst, Tagged: true, Vlan: vlan, Prio: prio, Type: kind, Data: data})
				}
			}
		}
	}
	return l
}

// P3.4: whatever bytes are decoded are encoded to the same.
func TestWhatWasDecodedIsEncoded(t *testing.T) {
	seed, decoded := uint32(11), 0
	for range 20000 {
		b := []byte(dst + src + "\x81\x00\x00\x00\x08\x00" + "somedata")
		for range 3 {
			seed = seed*1664525 + 1013904223
			b[seed>>8%uint32(len(b))] = byte(seed >> 24)
		}
		s := string(b[:seed>>12%uint32(len(b)+1)])
		f, e := ether.Decode(s)
		if e != api.OK {
			refused(t, e, s)
			continue
		}
		decoded++
		if again, e := ether.Encode(f); again != s || e != api.OK {
			t.Fatalf("%x: %x, %d", s, again, e)
		}
	}
	if decoded < 1000 {
		t.Errorf("no more than %d were decoded", decoded)
	}
}

// R5: a part that shared the frame's memory would keep all of it.
func TestDecodeAnswersNewMemory(t *testing.T) {
	for s := range frames() {
		f, _ := ether.Decode(s)
		for _, part := range []string{string(f.Dst), string(f.Src), f.Data} {
			if inside(part, s) {
				t.Errorf("%.40x: %.40x shares its memory", s, part)
			}
		}
	}
}

// inside tells whether part's bytes stand where s keeps its own.
func inside(part string, s string) bool {
	if part == "" {
		return false
	}
	at := uintptr(unsafe.Pointer(unsafe.StringData(part)))
	first := uintptr(unsafe.Pointer(unsafe.StringData(s)))
	return first <= at && at < first+uintptr(len(s))
}
