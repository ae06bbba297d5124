package bridge_test

import (
	"math"
	"slices"
	"strings"
	"testing"

	"siphon/api"
	"siphon/bridge"
)

// may and mayNot tell what Check and New must say of a config.
func may(t *testing.T, name string, c bridge.Config) {
	t.Helper()
	if e := bridge.Check(c); e != api.OK {
		t.Errorf("%s: Check: %d", name, e)
	}
	if b, e := bridge.New(c, 1); b == nil || e != api.OK {
		t.Errorf("%s: New: %v, %d", name, b, e)
	}
}

func mayNot(t *testing.T, name string, c bridge.Config) {
	t.Helper()
	if e := bridge.Check(c); e != api.ErrForm {
		t.Errorf("%s: Check: %d", name, e)
	}
	for _, now := range []int{1, 0} {
		if b, e := bridge.New(c, now); b != nil || e != api.ErrForm {
			t.Errorf("%s: New: %v, %d", name, b, e)
		}
	}
}

// P23.1: each number is well at its least and its greatest, and not one beyond.
func TestCheckNumbers(t *testing.T) {
	for _, x := range []struct {
		name        string
		least, most int
		set         func(c *bridge.Config, n int)
	}{
		{"Every", 4, 1000, func(c *bridge.Config, n int) { c.Every = n }},
		{"Robust", 1, 7, func(c *bridge.Config, n int) { c.Robust = n }},
		{"Member", 1, 1000, func(c *bridge.Config, n int) { c.Member = n }},
		{"Last", 1, 1000, func(c *bridge.Config, n int) { c.Last = n }},
		{"Age", 1, 10000, func(c *bridge.Config, n int) { c.Age = n }},
		{"Room", 1, 1000, func(c *bridge.Config, n int) { c.Room = n }},
		{"a cost", 1, 200000000, func(c *bridge.Config, n int) { c.Costs[1] = n }},
	} {
		c := config(3)
		for _, n := range []int{x.least, x.most} {
			x.set(&c, n)
			may(t, x.name, c)
		}
		for _, n := range []int{x.least - 1, x.most + 1, -1, math.MinInt, math.MaxInt} {
			x.set(&c, n)
			mayNot(t, x.name, c)
		}
	}
}

// P23.1: whatever Id is, and Flood and Fast are, it is well; a config of noughts is not.
func TestCheckWhatIsFree(t *testing.T) {
	c := config(3)
	for _, id := range []uint64{0, 1, math.MaxUint64} {
		c.Id = id
		for _, is := range []bool{false, true} {
			c.Flood, c.Fast = is, !is
			may(t, "Id", c)
		}
	}
	mayNot(t, "noughts", bridge.Config{})
}

// P23.1: as many Costs as Ports, 1 to 16.
func TestCheckCosts(t *testing.T) {
	for n := range 18 {
		c := config(n)
		if n < 1 || n > 16 {
			mayNot(t, "ports", c)
			continue
		}
		may(t, "ports", c)
		c.Costs = append(c.Costs, 10)
		mayNot(t, "one cost more", c)
		c.Costs = c.Costs[:n-1]
		mayNot(t, "one cost fewer", c)
		c.Costs = nil
		mayNot(t, "no costs", c)
	}
	c := config(2)
	c.Ports = nil
	mayNot(t, "no ports", c)
}

// P23.1: vlan.Check's ports alone.
func TestCheckPorts(t *testing.T) {
	for _, p := range []api.Port{
		{Default: 11, Plain: []int{10}},
		{Default: -1},
		{Plain: []int{10, 10}},
		{Plain: []int{11, 10}},
		{Tagged: []int{0}},
		{Tagged: []int{4095}},
		{Tagged: []int{10}, Plain: []int{10}},
	} {
		c := config(2)
		c.Ports[1] = p
		mayNot(t, "a port", c)
	}
	for _, p := range []api.Port{{}, {Default: 10, Tagged: []int{10, 4094}}, {Tagged: []int{1}, Plain: []int{2}}} {
		c := config(2)
		c.Ports[1] = p
		may(t, "a port", c)
	}
}

// vlans are numbers from one on.
func vlans(from, n int) []int {
	var l []int
	for i := range n {
		l = append(l, from+i)
	}
	return l
}

// P23.1: 20 unlike VLANs are well, 21 are not, however they stand at the ports.
func TestCheckVlans(t *testing.T) {
	for _, x := range []struct {
		name  string
		ports []api.Port
		well  bool
	}{
		{"20 at one", []api.Port{{Tagged: vlans(1, 20)}, {}}, true},
		{"21 at one", []api.Port{{Tagged: vlans(1, 21)}, {}}, false},
		{"20 plain", []api.Port{{Plain: vlans(4075, 20)}, {}}, true},
		{"21 plain", []api.Port{{}, {Plain: vlans(4074, 21)}}, false},
		{"20 at both", []api.Port{{Tagged: vlans(1, 15)}, {Plain: vlans(10, 11)}}, true},
		{"21 at both", []api.Port{{Tagged: vlans(1, 15)}, {Plain: vlans(10, 12)}}, false},
		{"20 twice", []api.Port{{Tagged: vlans(1, 20)}, {Plain: vlans(1, 20)}}, true},
		{"10 and 10 of one", []api.Port{{Tagged: vlans(1, 10), Plain: vlans(20, 10)}, {}}, true},
		{"11 and 10 of one", []api.Port{{Tagged: vlans(1, 11), Plain: vlans(20, 10)}, {}}, false},
		{"none", []api.Port{{}, {}}, true},
	} {
		c := config(2)
		c.Ports = x.ports
		if x.well {
			may(t, x.name, c)
		} else {
			mayNot(t, x.name, c)
		}
	}
}

// P23.1: addresses are empty or of their kind's length, and not all bytes 0.
func TestCheckAddresses(t *testing.T) {
	for n := range 40 {
		for _, one := range []string{"\x00", "\x01"} {
			a := api.Addr(strings.Repeat(one, n))
			c := config(2)
			c.Self4 = a
			if n == 0 || n == 4 && one == "\x01" {
				may(t, "Self4", c)
			} else {
				mayNot(t, "Self4", c)
			}
			c = config(2)
			c.Self6 = a
			if n == 0 || n == 16 && one == "\x01" {
				may(t, "Self6", c)
			} else {
				mayNot(t, "Self6", c)
			}
		}
	}
	// One byte, wherever it stands, is enough not to be all 0.
	for at := range 16 {
		c := config(2)
		six := make([]byte, 16)
		six[at] = 1
		c.Self6 = api.Addr(six)
		four := make([]byte, 4)
		four[at%4] = 128
		c.Self4 = api.Addr(four)
		may(t, "one byte", c)
	}
}

// P23.1: New at 1 to 2^40 alone.
func TestNewTimes(t *testing.T) {
	for _, now := range []int{1, 2, lastTime - 1, lastTime} {
		made(t, config(2), now)
	}
	for _, now := range []int{0, -1, lastTime + 1, math.MinInt, math.MaxInt} {
		if b, e := bridge.New(config(2), now); b != nil || e != api.ErrForm {
			t.Errorf("New at %d: %v, %d", now, b, e)
		}
	}
}

// P23.1: all ports are down: none has a role, none tells of the tree, however long it takes.
func TestNewIsDown(t *testing.T) {
	b := made(t, silent(3), 1)
	for now := 1; now < 70; now++ {
		if l := b.Tick(now); len(l) != 0 {
			t.Errorf("Tick of %d: %v", now, l)
		}
		goes(t, b, 0, plain(all, anna), now)
	}
	opens(t, b)
}

// P23.1: a switch asks from its own beginning on, neither earlier nor later.
func TestNewAsksFromItsBeginning(t *testing.T) {
	c := config(2)
	c.Self6 = ""
	b := made(t, c, 41)
	for port := range 2 {
		b.Link(port, true, 1)
	}
	for now := 31; now < 41; now++ {
		if _, queries := told(t, b, now); len(queries) != 0 {
			t.Errorf("at %d: %v", now, queries)
		}
	}
	if _, queries := told(t, b, 41); !slices.Equal(portsOf(queries), []int{0, 1}) {
		t.Errorf("at 41: %v", queries)
	}
}

// P23.1: of nil nothing comes.
func TestNil(t *testing.T) {
	for _, b := range []*bridge.Bridge{nil, new(bridge.Bridge)} {
		for _, now := range []int{1, 2, 31, lastTime, 0, math.MinInt, math.MaxInt} {
			for _, port := range []int{0, 1, -1, math.MinInt, math.MaxInt} {
				b.Link(port, true, now)
				if l := b.Take(port, plain(all, anna), now); l != nil {
					t.Errorf("Take: %v", l)
				}
				b.Take(port, treeSays(root()), now)
				b.Take(port, joins4(group4), now)
				b.Link(port, false, now)
			}
			if l := b.Tick(now); l != nil {
				t.Errorf("Tick: %v", l)
			}
			if b.Open() != nil || b.Routers(10, now) != nil || b.Wants(10, group4, host4, now) != nil {
				t.Errorf("something comes of nil")
			}
		}
	}
}

// R5: what New is given is not changed, and counts no more once it is made.
func TestConfigIsNotKept(t *testing.T) {
	four, six := []byte(self4), []byte(self6)
	c := config(3)
	c.Self4, c.Self6 = textOf(four), textOf(six)
	c.Ports[2] = api.Port{Tagged: []int{10}}
	a, b := up(t, c), up(t, c)
	if c.Costs[0] != 10 || c.Ports[0].Plain[0] != 10 || c.Ports[2].Tagged[0] != 10 || c.Self4 != self4 || c.Self6 != self6 {
		t.Errorf("what was handed in: %v", c)
	}
	// What of a knows is worked out from a config that is as it was.
	want := slices.Concat(a.Tick(31), a.Take(0, plain(all, anna), 60), a.Tick(62))
	c.Costs[0] = 77
	for i := range c.Ports {
		c.Ports[i].Default = 0
	}
	c.Ports[0].Plain[0], c.Ports[1].Plain[0], c.Ports[2].Tagged[0] = 20, 20, 20
	c.Ports[1] = api.Port{}
	copy(four, "XXXX")
	copy(six, "XXXXXXXXXXXXXXXX")
	if l := slices.Concat(b.Tick(31), b.Take(0, plain(all, anna), 60), b.Tick(62)); !slices.Equal(l, want) {
		t.Errorf("behind a change: %v, not %v", l, want)
	}
	b.Take(0, treeSays(root()), 62)
	if messages, _ := told(t, b, 64); messages[1].Vector.Cost != 10 {
		t.Errorf("a cost is kept: %v", messages)
	}
}
