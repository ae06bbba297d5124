package bpdu_test

import (
	"math"
	"strings"
	"testing"
	"unsafe"

	"siphon/api"
	"siphon/bpdu"
)

const (
	begin = "\x42\x42\x03\x00\x00\x02\x02"
	eight = "\x00\x00\x00\x00\x00\x00\x00\x00"
	times = "\x14\x00\x02\x00\x0f\x00"
)

// messages are such as may be, with the bytes that they stand in, as told by hand.
func messages() map[string]api.Bpdu {
	return map[string]api.Bpdu{
		begin + "\x0c" + eight + "\x00\x00\x00\x00" + eight + "\x00\x00" + "\x00\x00" + times + "\x00": {},
		begin + "\x2d\x00\x00\x00\x00\x00\x00\x00\x01\x00\x00\x4e\x20\x00\x00\x00\x00\x00\x00\x00\x02\x00\x03\x01\x00" + times + "\x00": {
			Vector: api.Vector{Root: 1, Cost: 20000, Bridge: 2, Port: 3}, Age: 1, Change: true, Fwd: true},
		begin + "\x1c\x80\x01\x02\x03\x04\x05\x06\x07\x12\x34\x56\x78\x90\x0a\x0b\x0c\x0d\x0e\x0f\x10\xab\xcd\x13\x00" + times + "\x00": {
			Vector: api.Vector{Root: 0x8001020304050607, Cost: 0x12345678, Bridge: 0x900a0b0c0d0e0f10, Port: 0xabcd}, Age: 19, Learn: true},
		begin + "\x3d" + strings.Repeat("\xff", 8+4+8+2+1) + "\x00" + times + "\x00": {
			Vector: api.Vector{Root: math.MaxUint64, Cost: 1<<32 - 1, Bridge: math.MaxUint64, Port: 65535}, Age: 255, Change: true, Learn: true, Fwd: true},
	}
}

// sample is one of them.
func sample(t *testing.T) (string, api.Bpdu) {
	t.Helper()
	b := api.Bpdu{Vector: api.Vector{Root: 0x8001020304050607, Cost: 70000, Bridge: 0x900a0b0c0d0e0f10, Port: 260}, Age: 7, Learn: true}
	return encoded(t, b), b
}

// changed is s with other bytes from place at on.
func changed(s string, at int, with ...byte) string {
	return s[:at] + string(with) + s[at+len(with):]
}

// encoded is the bytes of a message that may be.
func encoded(t *testing.T, b api.Bpdu) string {
	t.Helper()
	s, e := bpdu.Encode(b)
	if len(s) != 39 || e != api.OK {
		t.Fatalf("%v: %x, %d", b, s, e)
	}
	return s
}

// refused tells of each text that Decode must refuse it so, with no message.
func refused(t *testing.T, want api.Errno, l ...string) {
	t.Helper()
	for _, s := range l {
		if b, e := bpdu.Decode(s); b != (api.Bpdu{}) || e != want {
			t.Errorf("%x: %v, %d", s, b, e)
		}
	}
}

// taken tells of each text that Decode must read it as that message.
func taken(t *testing.T, want api.Bpdu, l ...string) {
	t.Helper()
	for _, s := range l {
		if b, e := bpdu.Decode(s); b != want || e != api.OK {
			t.Errorf("%x: %v, %d", s, b, e)
		}
	}
}

// P6.1
func TestWhereMessagesGo(t *testing.T) {
	for range 2 {
		if m := bpdu.To(); m != "\x01\x80\xc2\x00\x00\x00" {
			t.Errorf("%x", m)
		}
	}
}

// P6.2, P6.3, R4: each part where it belongs, with its least and its greatest number.
func TestMessagesAreReadAndWritten(t *testing.T) {
	for s, want := range messages() {
		taken(t, want, s)
		if b := encoded(t, want); b != s {
			t.Errorf("%x: written %x", s, b)
		}
	}
}

// P6.2: 38 bytes are too few, 39 enough; what stands behind them counts for nothing.
func TestDecodeTellsMissingBytes(t *testing.T) {
	for s, want := range messages() {
		for n := range 39 {
			refused(t, api.ErrCut, s[:n])
		}
		taken(t, want, s, s+"\x00", s+"\xff", s+s, s+strings.Repeat("padding", 300))
	}
}

// P6.2, R3: each byte that must be so, with each other value that there is.
func TestDecodeTellsWhatIsWrong(t *testing.T) {
	for s := range messages() {
		for _, at := range []int{0, 1, 2, 3, 4, 5, 6, 31, 38} {
			for n := range 256 {
				if text := changed(s, at, byte(n)); text != s {
					refused(t, api.ErrForm, text, text+"padding")
				}
			}
		}
		refused(t, api.ErrForm, "\x00"+s, s[1:]+"\x00", strings.Repeat("\x00", 39))
	}
}

// P6.2, R2: bytes that are lacking are told ahead of those that are wrong.
func TestMissingBytesAreToldFirst(t *testing.T) {
	s, _ := sample(t)
	for _, at := range []int{0, 6, 31} {
		text := changed(s, at, 0x99)
		refused(t, api.ErrCut, text[:38], text[:at+1])
		refused(t, api.ErrForm, text, text+"x")
	}
}

// P6.2: of each byte of flags the three that are told; the other bits are free.
func TestDecodeReadsEachFlag(t *testing.T) {
	s, want := sample(t)
	for n := range 256 {
		want.Change, want.Learn, want.Fwd = n%2 == 1, n/16%2 == 1, n/32%2 == 1
		taken(t, want, changed(s, 7, byte(n)))
	}
}

// P6.3: each flag alone, and all of them, beside the 12 that is always there.
func TestEncodeWritesEachFlag(t *testing.T) {
	_, b := sample(t)
	for n := range 8 {
		b.Change, b.Learn, b.Fwd = n&1 != 0, n&2 != 0, n&4 != 0
		want := byte(12 + n&1 + n>>1&1*16 + n>>2*32)
		if s := encoded(t, b); s[7] != want {
			t.Errorf("%v: %02x, not %02x", b, s[7], want)
		}
	}
}

// P6.2: the three numbers behind Age are free, both bytes of each.
func TestDecodeTakesAnyTimes(t *testing.T) {
	for s, want := range messages() {
		for at := 32; at < 38; at++ {
			for n := range 256 {
				taken(t, want, changed(s, at, byte(n)))
			}
		}
		taken(t, want, s[:32]+"xxxxxx"+s[38:], s[:32]+"\x00\x00\x00\x00\x00\x00"+s[38:])
	}
}

// P6.2: each byte of a number in its place.
func TestDecodeReadsEachByte(t *testing.T) {
	bare := begin + "\x00" + eight + "\x00\x00\x00\x00" + eight + "\x00\x00" + "\x00\x00" + times + "\x00"
	for n := range 256 {
		for i := range 8 {
			taken(t, api.Bpdu{Vector: api.Vector{Root: uint64(n) << (56 - 8*i)}}, changed(bare, 8+i, byte(n)))
			taken(t, api.Bpdu{Vector: api.Vector{Bridge: uint64(n) << (56 - 8*i)}}, changed(bare, 20+i, byte(n)))
		}
		for i := range 4 {
			taken(t, api.Bpdu{Vector: api.Vector{Cost: n << (24 - 8*i)}}, changed(bare, 16+i, byte(n)))
		}
		taken(t, api.Bpdu{Vector: api.Vector{Port: n << 8}}, changed(bare, 28, byte(n)))
		taken(t, api.Bpdu{Vector: api.Vector{Port: n}}, changed(bare, 29, byte(n)))
		taken(t, api.Bpdu{Age: n}, changed(bare, 30, byte(n)))
	}
}

// P6.3, R3: Cost, Port and Age at their ends, and one beyond.
func TestEncodeTellsWhatMayNotBe(t *testing.T) {
	beyond := func(most int) []int { return []int{-1, -most - 1, math.MinInt, most + 1, 2 * (most + 1), math.MaxInt} }
	for i, c := range []struct {
		most   int
		change func(b *api.Bpdu, n int)
	}{
		{1<<32 - 1, func(b *api.Bpdu, n int) { b.Vector.Cost = n }},
		{65535, func(b *api.Bpdu, n int) { b.Vector.Port = n }},
		{255, func(b *api.Bpdu, n int) { b.Age = n }},
	} {
		for _, b := range messages() {
			for _, n := range []int{0, 1, c.most - 1, c.most} {
				c.change(&b, n)
				taken(t, b, encoded(t, b))
			}
			for _, n := range beyond(c.most) {
				c.change(&b, n)
				if s, e := bpdu.Encode(b); s != "" || e != api.ErrArg {
					t.Errorf("case %d, %d: %x, %d", i, n, s, e)
				}
			}
		}
	}
	wrong := api.Bpdu{Vector: api.Vector{Cost: -1, Port: 65536}, Age: 256}
	if s, e := bpdu.Encode(wrong); s != "" || e != api.ErrArg {
		t.Errorf("%x, %d", s, e)
	}
}

// P6.4: what was encoded is decoded, whatever stands behind it.
func TestWhatWasEncodedIsDecoded(t *testing.T) {
	for bit := range 64 {
		for n := range 8 {
			b := api.Bpdu{
				Vector: api.Vector{Root: 1 << bit, Cost: 1<<(bit%33) - 1, Bridge: ^uint64(1 << bit), Port: 1<<(bit%17) - 1},
				Age:    255 - bit,
				Change: n&1 != 0,
				Learn:  n&2 != 0,
				Fwd:    n&4 != 0,
			}
			s := encoded(t, b)
			taken(t, b, s, s+"\x00", s+"\x01", s+s)
		}
	}
}

// R1: whatever bytes there are, Decode ends, and what it takes may be.
func TestNoBytesAreTooMuch(t *testing.T) {
	s, _ := sample(t)
	seed := uint32(7)
	for range 20000 {
		b := []byte(s)
		for range 3 {
			seed = seed*1664525 + 1013904223
			b[seed>>8%39] = byte(seed >> 24)
		}
		m, e := bpdu.Decode(string(b))
		if e != api.OK {
			refused(t, api.ErrForm, string(b))
			continue
		}
		taken(t, m, encoded(t, m))
	}
}

// R5: what is answered twice shares no memory.
func TestEncodeAnswersNewMemory(t *testing.T) {
	s, b := sample(t)
	again := encoded(t, b)
	if s != again || unsafe.StringData(s) == unsafe.StringData(again) {
		t.Errorf("%x, %x", s, again)
	}
}
