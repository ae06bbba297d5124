package code_test

import (
	"math"
	"testing"

	"siphon/api"
	"siphon/code"
)

type call func(int) (int, api.Errno)

// kind is one kind of codes, by the document's words: the first great code, and how many digits there are of m.
type kind struct {
	name     string
	dec, enc call
	great    int
	ms       int
}

func kinds() []kind {
	return []kind{
		{"8", code.Dec8, code.Enc8, 128, 16},
		{"16", code.Dec16, code.Enc16, 32768, 4096},
	}
}

// most is the greatest code.
func (k kind) most() int { return 2*k.great - 1 }

// number is a code's, counted by the document's words.
func (k kind) number(c int) int {
	if c < k.great {
		return c
	}
	n := c%k.ms + k.ms
	for range (c-k.great)/k.ms + 3 {
		n += n
	}
	return n
}

// answers tells of a call whether it answers just so.
func answers(t *testing.T, name string, f call, arg int, want int, wrong api.Errno) {
	t.Helper()
	if n, e := f(arg); n != want || e != wrong {
		t.Errorf("%s of %d: %d, %d, not %d, %d", name, arg, n, e, want, wrong)
	}
}

// P7.1: codes at the edges and among others, as told by hand.
func TestDec(t *testing.T) {
	for c, want := range map[int]int{0: 0, 1: 1, 126: 126, 127: 127, 128: 128, 129: 136, 142: 240, 143: 248, 144: 256, 145: 272, 159: 496, 160: 512, 239: 15872, 240: 16384, 241: 17408, 254: 30720, 255: 31744} {
		answers(t, "Dec8", code.Dec8, c, want, api.OK)
	}
	for c, want := range map[int]int{0: 0, 1: 1, 255: 255, 256: 256, 32767: 32767, 32768: 32768, 32769: 32776, 36863: 65528, 36864: 65536, 36865: 65552, 61439: 4193792, 61440: 4194304, 65534: 8386560, 65535: 8387584} {
		answers(t, "Dec16", code.Dec16, c, want, api.OK)
	}
}

// P7.1: every code there is.
func TestDecOfEachCode(t *testing.T) {
	for _, k := range kinds() {
		for c := range k.most() + 1 {
			answers(t, "Dec"+k.name, k.dec, c, k.number(c), api.OK)
		}
	}
}

// P7.1, R3: what is no code has no number.
func TestDecTellsWhatIsNoCode(t *testing.T) {
	for _, k := range kinds() {
		for _, c := range []int{-1, -2, -128, -32768, math.MinInt, k.most() + 1, k.most() + 2, 2 * (k.most() + 1), 65536, 1 << 32, math.MaxInt} {
			answers(t, "Dec"+k.name, k.dec, c, 0, api.ErrArg)
		}
	}
	answers(t, "Dec8", code.Dec8, 32768, 0, api.ErrArg)
}

// P7.2: numbers at a code's, one below and one above it, as told by hand.
func TestEnc(t *testing.T) {
	for n, want := range map[int]int{0: 0, 1: 1, 126: 126, 127: 127, 128: 128, 129: 128, 130: 128, 135: 128, 136: 129, 137: 129, 247: 142, 248: 143, 255: 143, 256: 144, 271: 144, 272: 145, 16383: 239, 16384: 240, 17407: 240, 17408: 241, 31743: 254, 31744: 255, 31745: 255, 32767: 255, 32768: 255, 65535: 255, 99999: 255, math.MaxInt: 255} {
		answers(t, "Enc8", code.Enc8, n, want, api.OK)
	}
	for n, want := range map[int]int{0: 0, 127: 127, 128: 128, 255: 255, 32766: 32766, 32767: 32767, 32768: 32768, 32769: 32768, 32775: 32768, 32776: 32769, 65527: 36862, 65528: 36863, 65535: 36863, 65536: 36864, 65551: 36864, 65552: 36865, 8387583: 65534, 8387584: 65535, 8387585: 65535, 8388607: 65535, 8388608: 65535, 1 << 24: 65535, 1 << 62: 65535, math.MaxInt: 65535} {
		answers(t, "Enc16", code.Enc16, n, want, api.OK)
	}
}

// P7.2: every number up to behind the greatest code's.
func TestEncOfEachNumber(t *testing.T) {
	for _, k := range kinds() {
		c := 0
		for n := range k.number(k.most()) + 5000 {
			if c < k.most() && k.number(c+1) <= n {
				c++
			}
			if got, e := k.enc(n); got != c || e != api.OK {
				t.Fatalf("Enc%s of %d: %d, %d, not %d", k.name, n, got, e, c)
			}
		}
	}
}

// P7.2: each power of 2 beyond the greatest, one below and one above it.
func TestEncOfGreatNumbers(t *testing.T) {
	for _, k := range kinds() {
		for bit := 23; bit < 63; bit++ {
			for _, n := range []int{1<<bit - 1, 1 << bit, 1<<bit + 1} {
				answers(t, "Enc"+k.name, k.enc, n, k.most(), api.OK)
			}
		}
	}
}

// P7.2, R3: numbers below 0 have no code.
func TestEncTellsNumbersBelowNought(t *testing.T) {
	for _, k := range kinds() {
		for _, n := range []int{-1, -2, -127, -128, -255, -32768, -65536, math.MinInt + 1, math.MinInt} {
			answers(t, "Enc"+k.name, k.enc, n, 0, api.ErrArg)
		}
	}
}

// P7.3: a greater code has a greater number, whose code it is; between two codes the lesser one is taken.
func TestCodesRise(t *testing.T) {
	for _, k := range kinds() {
		for c := range k.most() + 1 {
			n, e := k.dec(c)
			answers(t, "Enc"+k.name, k.enc, n, c, e)
			if c == 0 {
				continue
			}
			if below, _ := k.dec(c - 1); below >= n {
				t.Errorf("Dec%s of %d: %d, but below it %d", k.name, c, n, below)
			}
			answers(t, "Enc"+k.name, k.enc, n-1, c-1, api.OK)
		}
	}
}
