package router_test

import (
	"math"
	"slices"
	"testing"

	"siphon/api"
	"siphon/router"
)

const last = 1 << 40

// made are ports that forget behind so long.
func made(t *testing.T, age int) *router.Ports {
	t.Helper()
	p, e := router.New(age)
	if p == nil || e != api.OK {
		t.Fatalf("age %d: %v, %d", age, p, e)
	}
	return p
}

// fixes and sees tell that Fix and Seen must be well.
func fixes(t *testing.T, p *router.Ports, v int, port int) {
	t.Helper()
	if e := p.Fix(v, port); e != api.OK {
		t.Errorf("Fix of %d, %d: %d", v, port, e)
	}
}

func sees(t *testing.T, p *router.Ports, v int, port int, now int) {
	t.Helper()
	if e := p.Seen(v, port, now); e != api.OK {
		t.Errorf("Seen of %d, %d, %d: %d", v, port, now, e)
	}
}

// noFix and noSeen tell that they must be refused.
func noFix(t *testing.T, p *router.Ports, v int, port int) {
	t.Helper()
	if e := p.Fix(v, port); e != api.ErrArg {
		t.Errorf("Fix of %d, %d: %d", v, port, e)
	}
}

func noSeen(t *testing.T, p *router.Ports, v int, port int, now int) {
	t.Helper()
	if e := p.Seen(v, port, now); e != api.ErrArg {
		t.Errorf("Seen of %d, %d, %d: %d", v, port, now, e)
	}
}

// lists tells that List must answer just these ports, in this order.
func lists(t *testing.T, p *router.Ports, v int, now int, want ...int) {
	t.Helper()
	if l := p.List(v, now); !slices.Equal(l, want) {
		t.Errorf("List of %d, %d: %v, not %v", v, now, l, want)
	}
}

// drops and expires tell how many must go.
func drops(t *testing.T, p *router.Ports, port int, want int) {
	t.Helper()
	if n := p.Drop(port); n != want {
		t.Errorf("Drop of %d: %d, not %d", port, n, want)
	}
}

func expires(t *testing.T, p *router.Ports, now int, want int) {
	t.Helper()
	if n := p.Expire(now); n != want {
		t.Errorf("Expire of %d: %d, not %d", now, n, want)
	}
}

// P19.1: of age the least and the greatest are well, and nothing is known at first.
func TestNew(t *testing.T) {
	for _, age := range []int{1, 2, 10, 999999, 1000000} {
		p := made(t, age)
		for _, v := range []int{1, 2, 4094} {
			lists(t, p, v, 0)
		}
		expires(t, p, math.MaxInt, 0)
		for port := range api.MaxPorts {
			drops(t, p, port, 0)
		}
		sees(t, p, 1, 3, 5)
		lists(t, p, 1, 5+age-1, 3)
		lists(t, p, 1, 5+age)
	}
}

// P19.1, R3: what is beyond them is refused.
func TestNewRefuses(t *testing.T) {
	for _, age := range []int{0, -1, 1000001, math.MinInt, math.MaxInt, 1<<32 + 1} {
		if p, e := router.New(age); p != nil || e != api.ErrArg {
			t.Errorf("age %d: %v, %d", age, p, e)
		}
	}
}

// P19.1: all calls of nil, and, as there is no age, of ports that New did not make.
func TestNil(t *testing.T) {
	for _, p := range []*router.Ports{nil, {}} {
		noFix(t, p, 1, 3)
		noFix(t, p, 0, 16)
		noSeen(t, p, 1, 3, 5)
		noSeen(t, p, 0, 16, -1)
		for _, n := range []int{math.MinInt, -1, 0, 1, 3, 5, last, math.MaxInt} {
			lists(t, p, 1, n)
			lists(t, p, n, 5)
			drops(t, p, n, 0)
			expires(t, p, n, 0)
		}
	}
}

// P19.2: of a VLAN, a port and a time the least and the greatest are well.
func TestEdges(t *testing.T) {
	for _, v := range []int{1, 2, 4093, 4094} {
		for _, port := range []int{0, 1, 14, 15} {
			p := made(t, 10)
			fixes(t, p, v, port)
			lists(t, p, v, 0, port)
			lists(t, p, v, last+10, port)
			for _, now := range []int{0, 1, last - 1, last} {
				p := made(t, 10)
				sees(t, p, v, port, now)
				lists(t, p, v, now+9, port)
				lists(t, p, v, now+10)
			}
		}
	}
}

// P19.2: what is beyond them is refused, whatever the others are, and changes nothing.
func TestRefuses(t *testing.T) {
	p := made(t, 10)
	fixes(t, p, 1, 5)
	sees(t, p, 1, 3, 5)
	for _, v := range []int{0, -1, 4095, 4096, math.MinInt, math.MaxInt, 1<<32 + 1} {
		for _, port := range []int{0, 3, 15, -1, 16} {
			noFix(t, p, v, port)
			noSeen(t, p, v, port, 7)
			noSeen(t, p, v, port, -1)
		}
		lists(t, p, v, 7)
	}
	for _, port := range []int{-1, 16, 17, math.MinInt, math.MaxInt, 1 << 32} {
		for _, v := range []int{1, 4094, 0, 4095} {
			noFix(t, p, v, port)
			noSeen(t, p, v, port, 7)
			noSeen(t, p, v, port, last+1)
		}
		drops(t, p, port, 0)
	}
	for _, now := range []int{-1, last + 1, math.MinInt, math.MaxInt} {
		noSeen(t, p, 1, 3, now)
		noSeen(t, p, 1, 4, now)
		noSeen(t, p, 2, 3, now)
	}
	lists(t, p, 1, 14, 3, 5)
	lists(t, p, 1, 15, 5)
	lists(t, p, 2, 7)
	expires(t, p, 15, 1)
}

// P19.2: what was heard last counts, be its time later or not.
func TestSeenAgain(t *testing.T) {
	p := made(t, 10)
	sees(t, p, 1, 3, 5)
	sees(t, p, 1, 3, 8)
	lists(t, p, 1, 17, 3)
	lists(t, p, 1, 18)
	sees(t, p, 1, 3, 8)
	lists(t, p, 1, 17, 3)
	sees(t, p, 1, 3, 2)
	lists(t, p, 1, 11, 3)
	lists(t, p, 1, 12)
	expires(t, p, 11, 0)
	expires(t, p, 12, 1)
	lists(t, p, 1, 0)
	sees(t, p, 1, 3, 1)
	lists(t, p, 1, 10, 3)
	lists(t, p, 1, 11)
	drops(t, p, 3, 1)
	drops(t, p, 3, 0)
}

// P19.3: a port is there till age behind the time it was heard at, ahead of that time, too.
func TestList(t *testing.T) {
	p := made(t, 10)
	sees(t, p, 1, 3, 5)
	for _, now := range []int{math.MinInt, -1, 0, 4, 5, 6, 13, 14} {
		lists(t, p, 1, now, 3)
	}
	for _, now := range []int{15, 16, last, last + 1, math.MaxInt} {
		lists(t, p, 1, now)
	}
	lists(t, p, 1, 14, 3) // List itself forgets nothing
}

// P19.3: rising, whatever the order in which they came, and each once.
func TestListRises(t *testing.T) {
	p := made(t, 10)
	for _, port := range []int{9, 15, 2, 0} {
		fixes(t, p, 1, port)
	}
	for i, port := range []int{12, 15, 4, 1, 2, 14} {
		sees(t, p, 1, port, i)
	}
	fixes(t, p, 1, 9)
	fixes(t, p, 1, 4)
	lists(t, p, 1, 9, 0, 1, 2, 4, 9, 12, 14, 15)
	lists(t, p, 1, 10, 0, 1, 2, 4, 9, 14, 15)
	lists(t, p, 1, 13, 0, 2, 4, 9, 14, 15)
	lists(t, p, 1, 15, 0, 2, 4, 9, 15)
	for port := range api.MaxPorts {
		sees(t, p, 1, 15-port, 20)
		fixes(t, p, 1, (port*7)%16)
	}
	lists(t, p, 1, 25, 0, 1, 2, 3, 4, 5, 6, 7, 8, 9, 10, 11, 12, 13, 14, 15)
	lists(t, p, 1, 30, 0, 1, 2, 3, 4, 5, 6, 7, 8, 9, 10, 11, 12, 13, 14, 15)
}

// P19.3: VLANs know nothing of one another.
func TestVlans(t *testing.T) {
	p := made(t, 10)
	fixes(t, p, 1, 5)
	fixes(t, p, 4094, 6)
	sees(t, p, 1, 3, 5)
	sees(t, p, 2, 3, 6)
	sees(t, p, 2, 5, 7)
	sees(t, p, 3, 2, 8) // numbers of a VLAN and a port that change places
	lists(t, p, 1, 14, 3, 5)
	lists(t, p, 2, 14, 3, 5)
	lists(t, p, 3, 14, 2)
	lists(t, p, 4094, 14, 6)
	lists(t, p, 5, 14)
	lists(t, p, 1, 16, 5)
	lists(t, p, 2, 16, 5)
	for _, v := range []int{0, -1, 4095, math.MinInt, math.MaxInt} {
		lists(t, p, v, 5)
	}
}

// P19.4: Drop forgets a port in all VLANs, also what is old, and no other port.
func TestDrop(t *testing.T) {
	p := made(t, 10)
	for v := 1; v <= api.MaxVlan; v++ {
		sees(t, p, v, 3, v)
		if v%2 == 0 {
			sees(t, p, v, 4, v)
		}
	}
	lists(t, p, 4094, 4095, 3, 4)
	drops(t, p, 5, 0)
	drops(t, p, 3, 4094)
	drops(t, p, 3, 0)
	lists(t, p, 4093, 4095)
	lists(t, p, 4094, 4095, 4)
	drops(t, p, 4, 2047)
	expires(t, p, last+10, 0)
	for _, port := range []int{math.MinInt, -1, 16, math.MaxInt} {
		drops(t, p, port, 0)
	}
}

// P19.4: what is old at a time goes, and is not heard of again at an earlier one.
func TestExpire(t *testing.T) {
	p := made(t, 10)
	for i := range 100 {
		sees(t, p, 1+i%50, i%7, i)
	}
	expires(t, p, math.MinInt, 0)
	expires(t, p, -1, 0)
	expires(t, p, 9, 0)
	expires(t, p, 10, 1)
	expires(t, p, 10, 0)
	expires(t, p, 29, 19)
	lists(t, p, 1, 0, 1)
	lists(t, p, 21, 0, 0, 6) // heard at 20 and at 70
	expires(t, p, 108, 79)
	expires(t, p, 109, 1)
	expires(t, p, math.MaxInt, 0)
	sees(t, p, 1, 0, last)
	expires(t, p, last+9, 0)
	expires(t, p, last+10, 1)
}

// P19.4, P19.5: what is so for good stays, while what was heard of it goes and counts.
func TestForGood(t *testing.T) {
	p := made(t, 10)
	fixes(t, p, 1, 3)
	fixes(t, p, 2, 3)
	sees(t, p, 1, 3, 5)
	sees(t, p, 2, 3, 6)
	sees(t, p, 3, 3, 7)
	sees(t, p, 1, 4, 5)
	fixes(t, p, 1, 4)
	expires(t, p, 15, 2)
	lists(t, p, 1, 0, 3, 4)
	drops(t, p, 3, 2)
	drops(t, p, 3, 0)
	drops(t, p, 4, 0)
	expires(t, p, math.MaxInt, 0)
	for _, now := range []int{math.MinInt, 0, 100, last, math.MaxInt} {
		lists(t, p, 1, now, 3, 4)
		lists(t, p, 2, now, 3)
		lists(t, p, 3, now)
	}
	sees(t, p, 1, 3, 20)
	lists(t, p, 1, 30, 3, 4)
	expires(t, p, 30, 1)
}

// The example of the chapter.
func TestExample(t *testing.T) {
	p := made(t, 10)
	sees(t, p, 1, 3, 5)
	lists(t, p, 1, 14, 3)
	lists(t, p, 1, 15)
}

// R5: what was answered is the caller's own.
func TestAnswersAreNew(t *testing.T) {
	p := made(t, 10)
	fixes(t, p, 1, 3)
	fixes(t, p, 1, 9)
	sees(t, p, 1, 3, 5)
	sees(t, p, 1, 6, 5)
	one, two := p.List(1, 5), p.List(1, 5)
	for i := range one[:cap(one)] {
		one[:cap(one)][i] = -7
	}
	if !slices.Equal(two, []int{3, 6, 9}) {
		t.Errorf("another answer is %v then", two)
	}
	for _, n := range two[len(two):cap(two)] {
		if n == -7 {
			t.Error("two answers share room")
		}
	}
	lists(t, p, 1, 5, 3, 6, 9)
}

// R6: two that are made alike know nothing of one another.
func TestSideBySide(t *testing.T) {
	a, b := made(t, 10), made(t, 10)
	fixes(t, a, 1, 3)
	sees(t, b, 1, 4, 5)
	lists(t, a, 1, 5, 3)
	lists(t, b, 1, 5, 4)
	drops(t, a, 4, 0)
	expires(t, a, 15, 0)
	lists(t, b, 1, 5, 4)
}
