package querier_test

import (
	"math"
	"slices"
	"testing"
	"unsafe"

	"siphon/api"
	"siphon/querier"
)

// many are questions that are asked so often, so long between.
func many(t *testing.T, count int, gap int) *querier.Asks {
	t.Helper()
	a, e := querier.NewAsks(count, gap)
	if a == nil || e != api.OK {
		t.Fatalf("NewAsks of %d, %d: %v, %d", count, gap, a, e)
	}
	return a
}

// about is a question that is told by its VLAN.
func about(v int, sources ...api.Addr) querier.Question {
	return querier.Question{Vlan: v, Group: "\xe0\x01\x02\x03", Sources: sources}
}

func alike(a, b querier.Question) bool {
	return a.Vlan == b.Vlan && a.Group == b.Group && slices.Equal(a.Sources, b.Sources)
}

// adds and noRoom tell what Add must answer.
func adds(t *testing.T, a *querier.Asks, q querier.Question, now int) {
	t.Helper()
	if e := a.Add(q, now); e != api.OK {
		t.Errorf("Add of %v, %d: %d", q, now, e)
	}
}

func refuses(t *testing.T, a *querier.Asks, q querier.Question, now int, want api.Errno) {
	t.Helper()
	was := a.Len()
	if e := a.Add(q, now); e != want {
		t.Errorf("Add of %v, %d: %d, not %d", q, now, e, want)
	}
	counts(t, a, was)
}

// tells tells of which VLANs the questions must be that are due, in this order.
func tells(t *testing.T, a *querier.Asks, now int, want ...int) {
	t.Helper()
	var l []int
	for _, q := range a.Due(now) {
		l = append(l, q.Vlan)
	}
	if !slices.Equal(l, want) {
		t.Errorf("Due of %d: %v, not %v", now, l, want)
	}
}

// counts tells how many must wait.
func counts(t *testing.T, a *querier.Asks, want int) {
	t.Helper()
	if n := a.Len(); n != want {
		t.Errorf("Len: %d, not %d", n, want)
	}
}

// P20.4: of count and gap the least and the greatest are well; each question is told just count times.
func TestNewAsks(t *testing.T) {
	for _, count := range []int{1, 2, 6, 7} {
		for _, gap := range []int{1, 2, 10, 999, 1000} {
			a := many(t, count, gap)
			counts(t, a, 0)
			tells(t, a, math.MaxInt)
			adds(t, a, about(8), 5)
			for n := range count {
				counts(t, a, 1)
				tells(t, a, 5+n*gap-1)
				tells(t, a, 5+n*gap, 8)
			}
			counts(t, a, 0)
			tells(t, a, 5+count*gap)
			tells(t, a, math.MaxInt)
		}
	}
}

// P20.4, R3: what is beyond them is refused, whatever the other one is.
func TestNewAsksRefuses(t *testing.T) {
	for _, count := range []int{0, -1, 8, math.MinInt, math.MaxInt, 1<<32 + 1} {
		for _, gap := range []int{1, 10, 1000, 0, 1001} {
			if a, e := querier.NewAsks(count, gap); a != nil || e != api.ErrArg {
				t.Errorf("NewAsks of %d, %d: %v, %d", count, gap, a, e)
			}
		}
	}
	for _, gap := range []int{0, -1, 1001, math.MinInt, math.MaxInt, 1<<32 + 1} {
		for _, count := range []int{1, 4, 7, 0, 8} {
			if a, e := querier.NewAsks(count, gap); a != nil || e != api.ErrArg {
				t.Errorf("NewAsks of %d, %d: %v, %d", count, gap, a, e)
			}
		}
	}
}

// P20.4: all calls of nil. Asks that NewAsks did not make have no room.
func TestNilAsks(t *testing.T) {
	for _, c := range []struct {
		a    *querier.Asks
		want api.Errno
	}{{nil, api.ErrArg}, {&querier.Asks{}, api.ErrFull}} {
		for _, now := range []int{0, 5, last} {
			refuses(t, c.a, about(1), now, c.want)
		}
		for _, now := range []int{math.MinInt, -1, last + 1, math.MaxInt} {
			refuses(t, c.a, about(1), now, api.ErrArg)
		}
		for _, now := range []int{math.MinInt, -1, 0, last, math.MaxInt} {
			tells(t, c.a, now)
		}
		counts(t, c.a, 0)
	}
}

// P20.4: the times at which a question may be added.
func TestAddTimes(t *testing.T) {
	a := many(t, 2, 10)
	for _, now := range []int{-1, last + 1, math.MinInt, math.MaxInt} {
		refuses(t, a, about(1), now, api.ErrArg)
	}
	tells(t, a, math.MaxInt)
	for i, now := range []int{last, 0, last - 1, 1} {
		adds(t, a, about(i), now)
		counts(t, a, i+1)
	}
	tells(t, a, math.MinInt)
	tells(t, a, -1)
	tells(t, a, 0, 1)
	tells(t, a, 11, 3, 1, 3)
	counts(t, a, 2)
	tells(t, a, last-2)
	tells(t, a, last, 2, 0)
	tells(t, a, last+8)
	tells(t, a, last+9, 2)
	tells(t, a, math.MaxInt, 0)
	counts(t, a, 0)
}

// P20.4: there is room for 200, whatever they are, and as one goes for one more; a wrong time is told first.
func TestRoom(t *testing.T) {
	a := many(t, 2, 10)
	for i := range 200 {
		counts(t, a, i)
		adds(t, a, about(1+i/150), i)
	}
	counts(t, a, 200)
	for range 3 {
		refuses(t, a, about(1), 0, api.ErrFull)
		refuses(t, a, about(9), last, api.ErrFull)
		refuses(t, a, about(9), -1, api.ErrArg)
		refuses(t, a, about(9), last+1, api.ErrArg)
	}
	tells(t, a, 0, 1)
	counts(t, a, 200)
	refuses(t, a, about(9), 0, api.ErrFull) // that one has a time to come
	tells(t, a, 9, 1, 1, 1, 1, 1, 1, 1, 1, 1)
	counts(t, a, 200)
	tells(t, a, 10, 1, 1)
	counts(t, a, 199)
	adds(t, a, about(9), 10)
	refuses(t, a, about(9), 10, api.ErrFull)
	tells(t, a, 10, 9)
	if l := a.Due(math.MaxInt); len(l) != 400-12+1 {
		t.Errorf("%d were told", len(l))
	}
	counts(t, a, 0)
	tells(t, a, math.MaxInt)
	for range 200 {
		adds(t, a, about(1), 0)
	}
	refuses(t, a, about(1), 0, api.ErrFull)
}

// P20.4: a question is told for each of its times, be it late, and waits from that time on.
func TestDueLate(t *testing.T) {
	a := many(t, 4, 10)
	adds(t, a, about(1), 5)
	tells(t, a, 4)
	tells(t, a, 17, 1, 1) // of 5 and of 15
	tells(t, a, 17)
	tells(t, a, 24)
	tells(t, a, 25, 1) // 10 behind 15, not behind 17
	counts(t, a, 1)
	tells(t, a, 1000, 1)
	counts(t, a, 0)
	for _, now := range []int{35, 1000, math.MaxInt} {
		tells(t, a, now)
	}
	adds(t, a, about(2), 5)
	tells(t, a, 1000, 2, 2, 2, 2)
	counts(t, a, 0)
	adds(t, a, about(3), 2) // long ago
	tells(t, a, 2, 3)
	tells(t, a, math.MaxInt, 3, 3, 3)
}

// P20.4: in the order of their times, whatever the order in which they were added.
func TestDueByTimes(t *testing.T) {
	a := many(t, 2, 10)
	for i, now := range []int{7, 3, 9, 1, 12} {
		adds(t, a, about(i), now)
	}
	tells(t, a, 30, 3, 1, 0, 2, 3, 4, 1, 0, 2, 4) // 1 3 7 9 11 12 13 17 19 22
	counts(t, a, 0)
}

// P20.4: of one time in the order in which they came to wait for it, at Add or told again.
func TestDueOfOneTime(t *testing.T) {
	a := many(t, 2, 10)
	for _, v := range []int{4, 2, 9, 1} {
		adds(t, a, about(v), 5)
	}
	tells(t, a, 5, 4, 2, 9, 1)
	tells(t, a, 15, 4, 2, 9, 1)

	// Told at 0, 1 waits for 10 behind 2, which was added for it ahead of that, and ahead of 3, which was added behind that.
	a = many(t, 2, 10)
	adds(t, a, about(1), 0)
	adds(t, a, about(2), 10)
	tells(t, a, 0, 1)
	adds(t, a, about(3), 10)
	tells(t, a, 10, 2, 1, 3)
	tells(t, a, 20, 2, 3)

	// Told late, at once with others, it waits behind all that were added.
	a = many(t, 3, 10)
	adds(t, a, about(1), 0)
	adds(t, a, about(2), 10)
	adds(t, a, about(3), 20)
	adds(t, a, about(4), 10)
	tells(t, a, 20, 1, 2, 4, 1, 3, 2, 4, 1)
	tells(t, a, 40, 3, 2, 4, 3)
	counts(t, a, 0)

	// A lesser time that is told behind a greater one counts as it was told.
	a = many(t, 2, 10)
	adds(t, a, about(1), 5)
	tells(t, a, 5, 1)
	adds(t, a, about(2), 5)
	adds(t, a, about(3), 15)
	tells(t, a, 15, 2, 1, 3, 2)
}

// P20.4: one question that is added more than once is so many questions.
func TestAlike(t *testing.T) {
	a := many(t, 2, 10)
	adds(t, a, about(1), 5)
	adds(t, a, about(1), 5)
	adds(t, a, about(1), 6)
	counts(t, a, 3)
	tells(t, a, 5, 1, 1)
	tells(t, a, 16, 1, 1, 1, 1)
	counts(t, a, 0)
}

// P20.4: a question is told as it was added, whatever it is.
func TestQuestions(t *testing.T) {
	a := many(t, 2, 10)
	long := make([]api.Addr, 300)
	for i := range long {
		long[i] = api.Addr([]byte{byte(i), byte(i >> 8)})
	}
	all := []querier.Question{
		{},
		{Vlan: math.MinInt, Group: "g"},
		{Vlan: 4095, Group: "\x00", Sources: []api.Addr{""}},
		{Vlan: 1, Group: six, Sources: []api.Addr{"b", "a", "b"}},
		{Vlan: math.MaxInt, Sources: long},
		{Vlan: 1, Group: one, Sources: []api.Addr{}},
	}
	for _, q := range all {
		adds(t, a, q, 5)
	}
	for _, now := range []int{5, 15} {
		if l := a.Due(now); !slices.EqualFunc(l, all, alike) {
			t.Errorf("at %d: %v", now, l)
		}
	}
}

// P20.4: Len counts those that have times to come.
func TestLen(t *testing.T) {
	a := many(t, 2, 10)
	adds(t, a, about(1), 5)
	adds(t, a, about(2), 7)
	counts(t, a, 2)
	tells(t, a, 6, 1)
	counts(t, a, 2)
	tells(t, a, 15, 2, 1)
	counts(t, a, 1)
	adds(t, a, about(3), 100)
	counts(t, a, 2)
	tells(t, a, 17, 2)
	counts(t, a, 1)
	tells(t, a, 200, 3, 3)
	counts(t, a, 0)
}

// R5: what is added is neither changed nor kept.
func TestAddedIsNotKept(t *testing.T) {
	a := many(t, 2, 10)
	roomy := append(make([]api.Addr, 0, 8), "a", "b", "mark")
	q := about(1, roomy[:2]...)
	adds(t, a, q, 5)
	if !slices.Equal(roomy, []api.Addr{"a", "b", "mark"}) {
		t.Errorf("the list is %v then", roomy)
	}
	roomy[0], roomy[1] = "x", "y"
	for _, now := range []int{5, 15} {
		if l := a.Due(now); len(l) != 1 || !alike(l[0], about(1, "a", "b")) {
			t.Errorf("at %d: %v", now, l)
		}
	}
	if !slices.Equal(roomy, []api.Addr{"x", "y", "mark"}) {
		t.Errorf("the list is %v at last", roomy)
	}
}

// R5: no text of a question is kept as it lies.
func TestTextsAreNotKept(t *testing.T) {
	a := many(t, 1, 10)
	bytes := []byte("grp.srcAsrcB")
	text := api.Addr(unsafe.String(&bytes[0], len(bytes)))
	adds(t, a, querier.Question{Group: text[:4], Sources: []api.Addr{text[4:8], text[8:]}}, 5)
	copy(bytes, "------------")
	want := querier.Question{Group: "grp.", Sources: []api.Addr{"srcA", "srcB"}}
	if l := a.Due(5); len(l) != 1 || !alike(l[0], want) {
		t.Errorf("%v", l)
	}
}

// R5: what was told is the caller's own, and no two lists of it share any room.
func TestToldIsNew(t *testing.T) {
	for _, alone := range []bool{true, false} {
		a := many(t, 3, 10)
		adds(t, a, about(1, "a", "b", "c"), 5)
		if alone {
			spoil(a.Due(5))
		} else if l := a.Due(15); len(l) == 2 {
			spoil(l[:1])
			if !alike(l[1], about(1, "a", "b", "c")) {
				t.Errorf("the second one is %v", l[1])
			}
			spoil(l)
		} else {
			t.Errorf("%v", l)
		}
		l := a.Due(25)
		if len(l) == 0 || !alike(l[len(l)-1], about(1, "a", "b", "c")) {
			t.Errorf("%v", l)
		}
		spoil(l)
		adds(t, a, about(2, "d"), 5)
		if l := a.Due(5); len(l) != 1 || !alike(l[0], about(2, "d")) {
			t.Errorf("%v", l)
		}
	}
}

// spoil writes over all that was told, its spare room too.
func spoil(l []querier.Question) {
	for _, q := range l {
		s := q.Sources[:cap(q.Sources)]
		for i := range s {
			s[i] = "spoilt"
		}
	}
	l = l[:len(l):len(l)]
	for i := range l {
		l[i].Sources = l[i].Sources[:0]
	}
}

// R6: Asks know nothing of one another.
func TestAsksSideBySide(t *testing.T) {
	a, b := many(t, 2, 10), many(t, 1, 3)
	adds(t, a, about(1), 5)
	adds(t, b, about(2), 5)
	tells(t, a, 5, 1)
	tells(t, b, 5, 2)
	counts(t, a, 1)
	counts(t, b, 0)
	tells(t, b, 99)
	tells(t, a, 99, 1)
}
