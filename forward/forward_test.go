package forward_test

import (
	"math"
	"slices"
	"strings"
	"testing"

	"siphon/api"
	"siphon/forward"
)

const allNodes = api.Addr("\xff\x02\x00\x00\x00\x00\x00\x00\x00\x00\x00\x00\x00\x00\x00\x01")

func local(t *testing.T, g api.Addr, want bool) {
	t.Helper()
	if is := forward.Local(g); is != want {
		t.Errorf("Local of %x: %v", g, is)
	}
}

// floods and decides tell that Flood and Decide must answer just these ports, in this order.
func floods(t *testing.T, c forward.Case, want ...int) {
	t.Helper()
	if l := forward.Flood(c); !slices.Equal(l, want) {
		t.Errorf("Flood of %v: %v, not %v", c, l, want)
	}
}

func decides(t *testing.T, c forward.Case, want ...int) {
	t.Helper()
	if l := forward.Decide(c); !slices.Equal(l, want) {
		t.Errorf("Decide of %v: %v, not %v", c, l, want)
	}
}

// P22.1: 224.0.0.x is, for each x; with one bit of its first three bytes changed it is not.
func TestLocalOfFourBytes(t *testing.T) {
	for x := range 256 {
		local(t, api.Addr([]byte{224, 0, 0, byte(x)}), true)
		for at := range 3 {
			for bit := range 8 {
				g := []byte{224, 0, 0, byte(x)}
				g[at] ^= 1 << bit
				local(t, api.Addr(g), false)
			}
		}
	}
	local(t, "\xe0\x00\x01\x00", false)
	local(t, "\xdf\x00\x00\x01", false)
	local(t, "\x00\x00\x00\xe0", false)
	local(t, "\x00\x00\x00\x00", false)
	local(t, "\xef\xff\xff\xff", false)
}

// P22.1: ff02::1 is; with any of its bytes another one it is not.
func TestLocalOfSixteenBytes(t *testing.T) {
	local(t, allNodes, true)
	for at := range 16 {
		for b := range 256 {
			g := []byte(allNodes)
			g[at] = byte(b)
			local(t, api.Addr(g), api.Addr(g) == allNodes)
		}
	}
	local(t, "\xe0\x00\x00"+allNodes[3:], false)
	local(t, api.Addr(strings.Repeat("\x00", 16)), false)
	local(t, api.Addr(strings.Repeat("\xff", 16)), false)
}

// P22.1: addresses of any other length are not, whatever they begin or end with.
func TestLocalOfOtherLengths(t *testing.T) {
	for n := range 40 {
		if n != 4 {
			local(t, api.Addr(strings.Repeat("\xe0\x00\x00\x00", 10)[:n]), false)
			local(t, api.Addr("\xe0\x00\x00" + strings.Repeat("\x00", 40))[:n], false)
		}
		if n != 16 {
			local(t, (allNodes + "\xff\x02" + allNodes + allNodes)[:n], false)
		}
		if n > 0 {
			local(t, allNodes+api.Addr(strings.Repeat("\x00", n)), false)
			local(t, api.Addr(strings.Repeat("\x00", n))+allNodes, false)
			local(t, "\xe0\x00\x00\x01"+api.Addr(strings.Repeat("\x01", n)), false)
			local(t, api.Addr(strings.Repeat("\xe0", n))+"\xe0\x00\x00\x01", false)
		}
	}
	local(t, allNodes[12:], false)
	local(t, allNodes[:4], false)
}

// P22.2: ports that are both Open and Members, but Port.
func TestFlood(t *testing.T) {
	for _, c := range []struct {
		port          int
		members, open []int
		want          []int
	}{
		{0, nil, nil, nil},
		{0, []int{}, []int{}, nil},
		{0, []int{1, 2}, nil, nil},
		{0, nil, []int{1, 2}, nil},
		{0, []int{0}, []int{0}, nil},
		{0, []int{1}, []int{1}, []int{1}},
		{1, []int{0}, []int{0}, []int{0}},
		{0, []int{0, 1, 2, 3}, []int{0, 1, 2, 3}, []int{1, 2, 3}},
		{2, []int{0, 1, 2, 3}, []int{0, 1, 2, 3}, []int{0, 1, 3}},
		{3, []int{0, 1, 2, 3}, []int{0, 1, 2, 3}, []int{0, 1, 2}},
		{4, []int{0, 1, 2, 3}, []int{0, 1, 2, 3}, []int{0, 1, 2, 3}},
		{-1, []int{0, 1}, []int{0, 1}, []int{0, 1}},
		{5, []int{0, 1, 2}, []int{2, 3, 5}, []int{2}},
		{5, []int{0, 1, 5}, []int{2, 3, 5}, nil},
		{0, []int{1, 3}, []int{2, 4}, nil},
		{0, []int{15, 2, 9, 10, 2, 15}, []int{10, 10, 15, 9, 3, 2}, []int{2, 9, 10, 15}},
		{9, []int{9, 15, 9, 2}, []int{2, 9, 2, 9, 15}, []int{2, 15}},
		{0, []int{100, 20, -3, 7}, []int{7, -3, 20, 100}, []int{-3, 7, 20, 100}},
		{0, []int{math.MaxInt, 1, math.MinInt, 0}, []int{math.MinInt, 0, math.MaxInt}, []int{math.MinInt, math.MaxInt}},
		{math.MinInt, []int{math.MaxInt, math.MinInt}, []int{math.MinInt, math.MaxInt}, []int{math.MaxInt}},
		{0, []int{1 << 32, 1}, []int{1<<32 + 1, 1 << 32}, []int{1 << 32}},
	} {
		floods(t, forward.Case{Port: c.port, Members: c.members, Open: c.open}, c.want...)
		floods(t, forward.Case{Port: c.port, Members: c.open, Open: c.members}, c.want...)
	}
}

// P22.2: nothing else of a case says anything there.
func TestFloodByMembersAndOpenAlone(t *testing.T) {
	for bits := range 32 {
		c := told(bits)
		c.Port, c.Members, c.Open, c.Routers, c.Wants = 1, []int{3, 1, 2}, []int{2, 3, 1, 4}, []int{4, 2}, []int{0, 5}
		floods(t, c, 2, 3)
		c.Routers, c.Wants = nil, nil
		floods(t, c, 2, 3)
	}
}

// told is a case of which all that is true or false is so by a number's bits.
func told(bits int) forward.Case {
	return forward.Case{Local: bits&1 != 0, Over: bits&2 != 0, Recovers: bits&4 != 0, Known: bits&8 != 0, Flood: bits&16 != 0}
}

// P22.3: the document's example.
func TestTheDocumentsExample(t *testing.T) {
	decides(t, forward.Case{Members: []int{0, 1, 2, 3}, Open: []int{0, 1, 2, 3}, Routers: []int{1}, Wants: []int{2}, Known: true}, 1, 2)
}

// P22.3: whatever of a case is true, alone and together.
func TestDecideOfEachCase(t *testing.T) {
	for bits := range 32 {
		c := told(bits)
		c.Port, c.Members, c.Open, c.Routers, c.Wants = 7, []int{7, 5, 4, 3, 2, 5}, []int{2, 3, 4, 5, 7, 9}, []int{9, 4, 7, 4, 3}, []int{3, 7, 2, 2, 9, 8}
		switch {
		case c.Local || c.Over || c.Recovers:
			decides(t, c, 2, 3, 4, 5)
		case c.Known:
			decides(t, c, 2, 3, 4)
		case c.Flood:
			decides(t, c, 2, 3, 4, 5)
		default:
			decides(t, c, 3, 4)
		}
	}
}

// P22.3: each by itself.
func TestDecideOfOneThing(t *testing.T) {
	base := forward.Case{Port: 0, Members: []int{3, 2, 1, 0}, Open: []int{0, 1, 2, 3}, Routers: []int{1}, Wants: []int{2}}
	with := func(do func(c *forward.Case)) forward.Case {
		c := base
		do(&c)
		return c
	}
	decides(t, base, 1)
	decides(t, with(func(c *forward.Case) { c.Local = true }), 1, 2, 3)
	decides(t, with(func(c *forward.Case) { c.Over = true }), 1, 2, 3)
	decides(t, with(func(c *forward.Case) { c.Recovers = true }), 1, 2, 3)
	decides(t, with(func(c *forward.Case) { c.Known = true }), 1, 2)
	decides(t, with(func(c *forward.Case) { c.Flood = true }), 1, 2, 3)
	decides(t, with(func(c *forward.Case) { c.Known, c.Flood = true, true }), 1, 2)
	decides(t, with(func(c *forward.Case) { c.Known, c.Local = true, true }), 1, 2, 3)
	decides(t, with(func(c *forward.Case) { c.Known, c.Over = true, true }), 1, 2, 3)
	decides(t, with(func(c *forward.Case) { c.Known, c.Recovers = true, true }), 1, 2, 3)
	decides(t, with(func(c *forward.Case) { c.Routers = nil }))
	decides(t, with(func(c *forward.Case) { c.Known, c.Routers = true, nil }), 2)
	decides(t, with(func(c *forward.Case) { c.Known, c.Wants = true, nil }), 1)
	decides(t, with(func(c *forward.Case) { c.Known, c.Wants, c.Routers = true, nil, nil }))
}

// P22.3: routers and wants that are not in Flood do not bring a port in: Port, one that is not open, one that is no member, one that is neither.
func TestDecideIsWithinFlood(t *testing.T) {
	for bits := range 32 {
		for _, n := range []int{0, 2, 4, 9, -1, 16, math.MaxInt, math.MinInt} {
			c := told(bits)
			c.Members, c.Open, c.Routers, c.Wants = []int{0, 1, 2}, []int{0, 1, 4}, []int{n}, []int{n, n}
			if c.Local || c.Over || c.Recovers || c.Flood && !c.Known {
				decides(t, c, 1)
			} else {
				decides(t, c)
			}
			c.Routers = []int{1, n, 1}
			decides(t, c, 1)
		}
	}
}

// P22.3: empty lists, nil or not.
func TestDecideOfEmptyLists(t *testing.T) {
	for bits := range 32 {
		c := told(bits)
		decides(t, c)
		c.Members, c.Open, c.Routers, c.Wants = []int{}, []int{}, []int{}, []int{}
		decides(t, c)
		c.Routers, c.Wants = []int{1, 2}, []int{2, 3}
		decides(t, c)
		c.Members = []int{1, 2, 3}
		decides(t, c)
		c.Members, c.Open = nil, []int{1, 2, 3}
		decides(t, c)
	}
}

// P22.3: numbers in any order, with numbers twice, come out rising, each once.
func TestDecideInOrder(t *testing.T) {
	c := forward.Case{Port: 3, Known: true, Members: []int{15, 10, 9, 2, 9, 3, 0, 15}, Open: []int{3, 0, 2, 2, 9, 10, 15}, Routers: []int{10, 2, 10, 15}, Wants: []int{9, 2, 9, 15, 3}}
	decides(t, c, 2, 9, 10, 15)
	c.Known = false
	decides(t, c, 2, 10, 15)
	c.Over = true
	decides(t, c, 0, 2, 9, 10, 15)
}

// drawn is a case of small numbers, any of which may stand in any list.
func drawn(draw func(n int) int) forward.Case {
	list := func() []int {
		var l []int
		for range draw(12) {
			l = append(l, draw(10)-1)
		}
		return l
	}
	c := told(draw(32))
	if draw(2) == 0 {
		c.Local, c.Over, c.Recovers = false, false, false
	}
	c.Port, c.Members, c.Open, c.Routers, c.Wants = draw(10)-1, list(), list(), list(), list()
	return c
}

// model is Decide by the document's words, port by port.
func model(c forward.Case) (flood, goes []int) {
	for port := -2; port < 12; port++ {
		if port == c.Port || !slices.Contains(c.Members, port) || !slices.Contains(c.Open, port) {
			continue
		}
		flood = append(flood, port)
		unknown := !c.Known && c.Flood
		picked := slices.Contains(c.Routers, port) || c.Known && slices.Contains(c.Wants, port)
		if c.Local || c.Over || c.Recovers || unknown || picked {
			goes = append(goes, port)
		}
	}
	return flood, goes
}

// P22.2 to P22.4, R6: of many cases; with more routers, or more who want, nothing is left out that went ahead of it.
func TestCasesAsTheModel(t *testing.T) {
	seed := uint32(22)
	draw := func(n int) int {
		seed = seed*1664525 + 1013904223
		return int(seed>>8) % n
	}
	for range 20000 {
		c := drawn(draw)
		flood, goes := model(c)
		floods(t, c, flood...)
		decides(t, c, goes...)
		decides(t, c, goes...)
		more := c
		more.Routers = append(slices.Clone(c.Routers), draw(12), draw(12))
		more.Wants = append(slices.Clone(c.Wants), draw(12))
		for _, port := range goes {
			if l := forward.Decide(more); !slices.Contains(l, port) {
				t.Errorf("%v: %v without %d", more, l, port)
			}
		}
	}
}

// roomy is a list with room behind it, in which marks stand.
func roomy(l ...int) []int { return append(slices.Clone(l), 77, 77, 77, 77)[:len(l)] }

// spoil writes into a list, and into the room behind it.
func spoil(l []int) {
	l = l[:cap(l)]
	for i := range l {
		l[i] = 99
	}
}

// R5: what is handed in is as it was, in its room too; writing into an answer changes neither it nor the next answer.
func TestCasesAreNotKept(t *testing.T) {
	for bits := range 32 {
		c := told(bits)
		c.Members, c.Open, c.Routers, c.Wants = roomy(3, 1, 2, 1), roomy(2, 3, 1), roomy(2, 1, 3), roomy(3, 2, 1, 1)
		for range 2 {
			floods(t, c, 1, 2, 3)
			spoil(forward.Flood(c))
			decides(t, c, 1, 2, 3)
			spoil(forward.Decide(c))
		}
		for _, l := range []struct{ l, want []int }{
			{c.Members, []int{3, 1, 2, 1}}, {c.Open, []int{2, 3, 1}}, {c.Routers, []int{2, 1, 3}}, {c.Wants, []int{3, 2, 1, 1}},
		} {
			if !slices.Equal(l.l, l.want) || !slices.Equal(l.l[:len(l.l)+4][len(l.l):], []int{77, 77, 77, 77}) {
				t.Errorf("%v, not %v", l.l[:len(l.l)+4], l.want)
			}
		}
	}
}

// R5: so it is where all lists are the same one, and rise already.
func TestOneListForAll(t *testing.T) {
	l := roomy(1, 2, 3)
	c := forward.Case{Members: l, Open: l, Routers: l, Wants: l, Known: true}
	spoil(forward.Flood(c))
	spoil(forward.Decide(c))
	c.Over = true
	spoil(forward.Decide(c))
	if !slices.Equal(l[:7], []int{1, 2, 3, 77, 77, 77, 77}) {
		t.Errorf("%v", l[:7])
	}
}
