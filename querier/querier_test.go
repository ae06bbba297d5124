package querier_test

import (
	"math"
	"strings"
	"testing"
	"unsafe"

	"siphon/api"
	"siphon/querier"
)

const (
	one   = api.Addr("\x0a\x00\x00\x01")
	two   = api.Addr("\x0a\x00\x00\x02")
	three = api.Addr("\x0a\x00\x00\x03")

	six     = api.Addr("\xfe\x80\x00\x00\x00\x00\x00\x00\x00\x00\x00\x00\x00\x00\x00\x05")
	sixLess = api.Addr("\xfe\x80\x00\x00\x00\x00\x00\x00\x00\x00\x00\x00\x00\x00\x00\x04")
	sixMore = api.Addr("\xfe\x80\x00\x00\x00\x00\x00\x00\x00\x00\x00\x00\x00\x00\x01\x00")
	sixNone = api.Addr("\x00\x00\x00\x00\x00\x00\x00\x00\x00\x00\x00\x00\x00\x00\x00\x00")

	last = 1 << 40
)

// made is one with that address, that asks so often, and is so robust.
func made(t *testing.T, self api.Addr, every int, robust int, now int) *querier.Querier {
	t.Helper()
	q, e := querier.New(self, every, robust, now)
	if q == nil || e != api.OK {
		t.Fatalf("New of %x, %d, %d, %d: %v, %d", self, every, robust, now, q, e)
	}
	return q
}

// refused tells that New must answer nothing.
func refused(t *testing.T, self api.Addr, every int, robust int, now int) {
	t.Helper()
	if q, e := querier.New(self, every, robust, now); q != nil || e != api.ErrArg {
		t.Errorf("New of %x, %d, %d, %d: %v, %d", self, every, robust, now, q, e)
	}
}

// believes tells what Hear must answer.
func believes(t *testing.T, q *querier.Querier, src api.Addr, now int, want bool) {
	t.Helper()
	if b := q.Hear(src, now); b != want {
		t.Errorf("Hear of %x, %d: %v", src, now, b)
	}
}

// is tells at which times it must be the one to ask, isNot at which not.
func is(t *testing.T, q *querier.Querier, times ...int) {
	t.Helper()
	for _, now := range times {
		if !q.Is(now) {
			t.Errorf("Is of %d: false", now)
		}
	}
}

func isNot(t *testing.T, q *querier.Querier, times ...int) {
	t.Helper()
	for _, now := range times {
		if q.Is(now) {
			t.Errorf("Is of %d: true", now)
		}
	}
}

// asks tells at which times Tick must answer true, one after the other, waits at which false.
func asks(t *testing.T, q *querier.Querier, times ...int) {
	t.Helper()
	for _, now := range times {
		if !q.Tick(now) {
			t.Errorf("Tick of %d: false", now)
		}
	}
}

func waits(t *testing.T, q *querier.Querier, times ...int) {
	t.Helper()
	for _, now := range times {
		if q.Tick(now) {
			t.Errorf("Tick of %d: true", now)
		}
	}
}

// P20.1: of all that New is given the least and the greatest are well; it asks from now on.
func TestNew(t *testing.T) {
	for _, self := range []api.Addr{one, six, "\x00\x00\x00\x00", "\xff\xff\xff\xff", sixNone} {
		for _, every := range []int{4, 5, 100, 99999, 100000} {
			for _, robust := range []int{1, 2, 6, 7} {
				for _, now := range []int{1, 2, 1000000, last - 1, last} {
					q := made(t, self, every, robust, now)
					is(t, q, 0, now-1, now, last, math.MaxInt)
					waits(t, q, 0, now-1)
					asks(t, q, now)
				}
				asks(t, made(t, self, every, robust, 0), 0)
			}
		}
	}
}

// P20.1, R3: what is beyond them is refused, whatever the others are.
func TestNewRefuses(t *testing.T) {
	for _, self := range []api.Addr{"\x00", "abc", "abcde", "123456789012345", "12345678901234567", api.Addr(strings.Repeat("a", 32))} {
		refused(t, self, 100, 2, 0)
		refused(t, self, 3, 8, -1)
	}
	for _, self := range []api.Addr{"", one, six} {
		for _, every := range []int{3, 0, -4, 100001, math.MinInt, math.MaxInt, 1<<32 + 4} {
			refused(t, self, every, 2, 0)
			refused(t, self, every, 0, last+1)
		}
		for _, robust := range []int{0, -1, 8, math.MinInt, math.MaxInt, 1<<32 + 1} {
			refused(t, self, 100, robust, 0)
			refused(t, self, 100, robust, -1)
		}
		for _, now := range []int{-1, last + 1, math.MinInt, math.MaxInt} {
			refused(t, self, 100, 2, now)
		}
	}
}

// P20.1: all calls of nil, and, as it has no address, of one that New did not make.
func TestNil(t *testing.T) {
	for _, q := range []*querier.Querier{nil, {}} {
		for _, now := range []int{math.MinInt, -1, 0, 1, 100, last, last + 1, math.MaxInt} {
			believes(t, q, one, now, false)
			believes(t, q, "", now, false)
			isNot(t, q, now)
			waits(t, q, now)
		}
	}
}

// P20.1, P20.2, P20.3: one without an address never asks, and believes nobody.
func TestNoAddress(t *testing.T) {
	q := made(t, "", 4, 1, 0)
	for _, now := range []int{math.MinInt, -1, 0, 1, 4, 5, 100, last, last + 1, math.MaxInt} {
		isNot(t, q, now)
		waits(t, q, now)
		for _, src := range []api.Addr{"", "\x00", one, six} {
			believes(t, q, src, now, false)
		}
	}
}

// P20.2: only one with a lesser address of as many bytes, not all of them 0, is believed.
func TestHear(t *testing.T) {
	for _, c := range []struct {
		self, src api.Addr
		want      bool
	}{
		{two, one, true},
		{two, two, false},
		{two, three, false},
		{two, "\x00\x00\x00\x01", true},
		{two, "\x00\x00\x00\x00", false},
		{two, "\x01\x00\x00\x00", true},
		{two, "\x0a\x00\x00\x00", true},
		{two, "\x09\xff\xff\xff", true},
		{two, "\x0a\x00\x01\x00", false},
		{two, "\x80\x00\x00\x00", false},
		{two, "\xff\xff\xff\xff", false},
		{"\x80\x00\x00\x00", "\x7f\xff\xff\xff", true},
		{"\x00\x00\x00\x01", "\x00\x00\x00\x00", false},
		{"\x00\x00\x00\x00", "\x00\x00\x00\x00", false},
		{"\x00\x00\x00\x00", one, false},
		{two, "", false},
		{two, "\x01", false},
		{two, "\x0a\x00\x00", false},
		{two, "\x0a\x00\x00\x01\x00", false},
		{two, "\x00\x00\x00\x00\x00\x00\x00\x00\x00\x00\x00\x00\x00\x00\x00\x01", false},
		{six, sixLess, true},
		{six, six, false},
		{six, sixMore, false},
		{six, sixNone, false},
		{six, "\x00\x00\x00\x00\x00\x00\x00\x00\x00\x00\x00\x00\x00\x00\x00\x01", true},
		{six, "\x01\x00\x00\x00\x00\x00\x00\x00\x00\x00\x00\x00\x00\x00\x00\x00", true},
		{six, one, false},
		{six, "", false},
		{six, sixLess[:15], false},
		{six, sixLess + "\x00", false},
		{"", one, false},
		{"", "", false},
		{"", sixLess, false},
	} {
		q := made(t, c.self, 100, 2, 0)
		believes(t, q, c.src, 0, c.want)
		if c.want {
			isNot(t, q, 0, 204)
			is(t, q, 205)
		} else if c.self != "" {
			is(t, q, 0)
			asks(t, q, 0)
		}
	}
}

// P20.2: the times at which one may be heard.
func TestHearTimes(t *testing.T) {
	for _, now := range []int{-1, last + 1, math.MinInt, math.MaxInt} {
		q := made(t, two, 100, 2, 0)
		believes(t, q, one, now, false)
		is(t, q, 0, last)
		asks(t, q, 0)
	}
	for _, now := range []int{0, 1, last - 1, last} {
		q := made(t, two, 100, 2, 0)
		believes(t, q, one, now, true)
		isNot(t, q, 0, now, now+204)
		is(t, q, now+205)
	}
}

// P20.2: until when another one asks goes by how often this one does, and how robust it is.
func TestUntil(t *testing.T) {
	for _, every := range []int{4, 5, 100, 100000} {
		for _, robust := range []int{1, 2, 7} {
			q := made(t, two, every, robust, 0)
			believes(t, q, one, 30, true)
			end := 30 + robust*every + 5
			isNot(t, q, math.MinInt, -1, 0, 29, 30, end-1)
			is(t, q, end, end+1, last+1, math.MaxInt)
		}
	}
}

// P20.2: a time that was later stays, whoever it is of.
func TestUntilStays(t *testing.T) {
	q := made(t, three, 100, 2, 0)
	believes(t, q, one, 130, true)
	believes(t, q, two, 120, true)
	believes(t, q, one, 0, true)
	believes(t, q, one, 130, true)
	isNot(t, q, 334)
	is(t, q, 335)
	believes(t, q, two, 131, true)
	isNot(t, q, 335)
	is(t, q, 336)
	for _, src := range []api.Addr{three, "\x0a\x00\x00\x04", "\x00\x00\x00\x00", "", sixLess} {
		believes(t, q, src, 300, false)
	}
	believes(t, q, one, -1, false)
	believes(t, q, one, last+1, false)
	isNot(t, q, 335)
	is(t, q, 336)
}

// P20.2: at first it is, but not at a time below 0.
func TestIs(t *testing.T) {
	q := made(t, two, 100, 2, 50)
	isNot(t, q, math.MinInt, -1<<32, -1)
	is(t, q, 0, 49, 50, last, last+1, math.MaxInt)
}

// P20.3: the first times, as many as it is robust, come fast, the others do not.
func TestTick(t *testing.T) {
	for _, every := range []int{4, 5, 6, 7, 100, 103, 100000} {
		for robust := 1; robust <= 7; robust++ {
			q, next := made(t, two, every, robust, 9), 9
			for n := 1; n <= 12; n++ {
				waits(t, q, 0, next-1)
				asks(t, q, next)
				waits(t, q, next)
				if n < robust {
					next += every / 4
				} else {
					next += every
				}
			}
		}
	}
}

// P20.3: where it comes late, the next time goes by when it came.
func TestTickLate(t *testing.T) {
	q := made(t, two, 100, 3, 0)
	asks(t, q, 7)
	waits(t, q, 25, 31)
	asks(t, q, 40)
	waits(t, q, 64)
	asks(t, q, 65)
	waits(t, q, 90, 164)
	asks(t, q, 1000)
	waits(t, q, 1099)
	asks(t, q, 1100)
}

// P20.3: the times at which it may ask; beyond them nothing is done.
func TestTickTimes(t *testing.T) {
	q := made(t, two, 100, 2, 0)
	waits(t, q, -1, math.MinInt, last+1, math.MaxInt)
	asks(t, q, 0)
	waits(t, q, -1, last+1)
	asks(t, q, 25)
	waits(t, q, math.MinInt, math.MaxInt)
	asks(t, q, 125)
	asks(t, q, last)
	waits(t, q, last, last+1, last+100)
	q = made(t, two, 100, 2, last)
	waits(t, q, last-1, last+1)
	asks(t, q, last)
	q = made(t, two, 100, 2, 0)
	believes(t, q, one, 0, true)
	waits(t, q, -1, last+1) // no Tick where it is not: NEXT is 0 as it was
	asks(t, q, 205, 230)
}

// P20.3: behind another one it asks from that one's end on, fast again.
func TestTickBehindAnother(t *testing.T) {
	q := made(t, two, 100, 3, 0)
	asks(t, q, 0, 25, 50)
	believes(t, q, one, 60, true)
	waits(t, q, 60, 150, 364)
	waits(t, q, 300) // earlier again
	asks(t, q, 365)
	waits(t, q, 389)
	asks(t, q, 390, 415)
	waits(t, q, 514)
	asks(t, q, 515)
}

// P20.3: NEXT goes by the last Tick where it is not: what is heard behind that moves the end alone.
func TestTickHeardAgain(t *testing.T) {
	q := made(t, two, 100, 2, 0)
	believes(t, q, one, 0, true)
	waits(t, q, 100)
	believes(t, q, one, 150, true)
	waits(t, q, 354)
	asks(t, q, 355, 380)
	believes(t, q, one, 400, true)
	waits(t, q, 604)
	believes(t, q, one, 500, true)
	asks(t, q, 705) // NEXT is 605, as the Tick of 604 left it
	asks(t, q, 730)
}

// P20.3: without a Tick while the other one asks all stays as it was.
func TestTickPassedOver(t *testing.T) {
	q := made(t, two, 100, 2, 0)
	asks(t, q, 0, 25)
	believes(t, q, one, 30, true)
	asks(t, q, 235) // NEXT is 125 still, and it has asked twice
	waits(t, q, 260, 334)
	asks(t, q, 335)
	q = made(t, two, 4, 7, 1000)
	believes(t, q, one, 0, true)
	waits(t, q, 33, 999) // NEXT is 1000 still
	asks(t, q, 1000)
	q = made(t, two, 4, 7, 1000)
	believes(t, q, one, 0, true)
	waits(t, q, 32) // NEXT is 33, though it was 1000
	asks(t, q, 33)
}

// P20.5: of two that hear one another just the one with the lesser address asks.
func TestTwo(t *testing.T) {
	a, b := made(t, one, 20, 2, 0), made(t, two, 20, 2, 0)
	said := map[int]string{}
	for now := range 500 {
		for _, q := range []*querier.Querier{a, b} {
			if q.Tick(now) && q == a {
				said[now] += "a"
				believes(t, b, one, now, true)
			} else if q.Is(now) && q == b && now > 0 {
				t.Errorf("both ask at %d", now)
			}
		}
	}
	for now := range 500 {
		want := now == 0 || now >= 5 && now%20 == 5
		if (said[now] == "a") != want {
			t.Errorf("at %d: %q", now, said[now])
		}
	}
	// The lesser one falls silent behind 485.
	for now := 500; now < 530; now++ {
		waits(t, b, now)
	}
	asks(t, b, 530, 535, 555)
	believes(t, a, two, 555, false)
	is(t, a, 555)
}

// P20.5: that holds also where the greater one has asked first.
func TestTwoTheOtherWay(t *testing.T) {
	a, b := made(t, one, 20, 2, 50), made(t, two, 20, 2, 0)
	asks(t, b, 0)
	believes(t, a, two, 0, false)
	asks(t, b, 5, 25, 45)
	waits(t, a, 49)
	asks(t, a, 50)
	believes(t, b, one, 50, true)
	waits(t, b, 50, 65, 94)
	asks(t, b, 95)
}

// The example of the chapter.
func TestExample(t *testing.T) {
	q := made(t, two, 100, 2, 0)
	asks(t, q, 0)
	waits(t, q, 24)
	asks(t, q, 25)
	waits(t, q, 124)
	asks(t, q, 125)
	believes(t, q, one, 130, true)
	isNot(t, q, 130, 334)
	is(t, q, 335)
}

// R5: neither the address that it is made with nor one that it hears is kept as it lies.
func TestAddressesAreNotKept(t *testing.T) {
	bytes := []byte(two + one)
	text := unsafe.String(&bytes[0], len(bytes))
	q := made(t, api.Addr(text[:4]), 100, 2, 0)
	copy(bytes, "\x00\x00\x00\x00")
	believes(t, q, one, 0, true)
	believes(t, q, api.Addr(text[4:]), 30, true)
	copy(bytes[4:], three)
	isNot(t, q, 234)
	is(t, q, 235)
}

// R6: two that are made alike know nothing of one another.
func TestSideBySide(t *testing.T) {
	a, b := made(t, two, 100, 2, 0), made(t, two, 100, 2, 0)
	asks(t, a, 0)
	believes(t, a, one, 0, true)
	waits(t, a, 0)
	is(t, b, 0)
	asks(t, b, 0, 25)
}
