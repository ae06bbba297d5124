package net_test

import (
	"math"
	"slices"
	"testing"
	"unsafe"

	"siphon/api"
	"siphon/bpdu"
	"siphon/bridge"
	"siphon/ether"
	"siphon/igmp"
	"siphon/ipv4"
	"siphon/net"
)

const (
	anna  = api.Mac("\x02\x00\x00\x00\x00\x0a")
	all   = api.Mac("\xff\xff\xff\xff\xff\xff")
	host  = api.Addr("\x0a\x00\x00\x09")
	group = api.Addr("\xe0\x01\x02\x03")
	self  = api.Addr("\x0a\x00\x00\x05")

	lastTime = 1 << 40
)

// badTimes are those that a switch does nothing at.
var badTimes = []int{0, -1, lastTime + 1, math.MinInt, math.MaxInt}

// config is a switch of so many ports, all in VLAN 10 without a tag, that asks nobody.
func config(id uint64, ports int) bridge.Config {
	c := bridge.Config{Id: id, Every: 20, Robust: 2, Member: 60, Last: 3, Age: 100, Room: 50}
	for range ports {
		c.Ports = append(c.Ports, api.Port{Default: 10, Plain: []int{10}})
		c.Costs = append(c.Costs, 10)
	}
	return c
}

// configs are so many switches, with Ids from 1 on.
func configs(switches, ports int) []bridge.Config {
	var l []bridge.Config
	for i := range switches {
		l = append(l, config(uint64(i+1), ports))
	}
	return l
}

// w is a wire.
func w(a, portA, b, portB int) net.Wire {
	return net.Wire{A: a, PortA: portA, B: b, PortB: portB}
}

func made(t *testing.T, l []bridge.Config, wires ...net.Wire) *net.Net {
	t.Helper()
	n, e := net.New(l, wires)
	if n == nil || e != api.OK {
		t.Fatalf("New of %v, %v: %v, %d", l, wires, n, e)
	}
	return n
}

func mayNot(t *testing.T, l []bridge.Config, wires ...net.Wire) {
	t.Helper()
	if n, e := net.New(l, wires); n != nil || e != api.ErrForm {
		t.Errorf("New of %d switches, %v: %v, %d", len(l), wires, n, e)
	}
}

// rested is a net behind 80 ticks.
func rested(t *testing.T, l []bridge.Config, wires ...net.Wire) *net.Net {
	t.Helper()
	n := made(t, l, wires...)
	through(n, 1, 80)
	return n
}

// through lets time go.
func through(n *net.Net, from, to int) {
	for now := from; now <= to; now++ {
		n.Tick(now)
	}
}

// place is a switch and a port of it.
type place [2]int

func places(l []net.Delivery) []place {
	var out []place
	for _, d := range l {
		out = append(out, place{d.Switch, d.Port})
	}
	return out
}

// delivers tells that a frame must come out just there, in this order, as it was sent.
func delivers(t *testing.T, n *net.Net, s, port int, bytes string, now int, want ...place) {
	t.Helper()
	l := n.Send(s, port, bytes, now)
	if !slices.Equal(places(l), want) {
		t.Errorf("Send of %x at %d, %d, at %d: %v, not %v", bytes, s, port, now, places(l), want)
	}
	for _, d := range l {
		if d.Bytes != bytes {
			t.Errorf("Send of %x at %d, %d, at %d: %x", bytes, s, port, now, d.Bytes)
		}
	}
}

func opens(t *testing.T, n *net.Net, s int, want ...int) {
	t.Helper()
	if l := n.Open(s); !slices.Equal(l, want) {
		t.Errorf("Open of %d: %v, not %v", s, l, want)
	}
}

func wants(t *testing.T, n *net.Net, s int, now int, want ...int) {
	t.Helper()
	if l := n.Wants(s, 10, group, host, now); !slices.Equal(l, want) {
		t.Errorf("Wants of %d at %d: %v, not %v", s, now, l, want)
	}
}

// bytesOf are those of a frame that may be.
func bytesOf(f api.Frame) string {
	s, e := ether.Encode(f)
	if e != api.OK {
		panic("no frame")
	}
	return s
}

func plain(dst api.Mac) string {
	return bytesOf(api.Frame{Dst: dst, Src: anna, Type: 99, Data: "what is told"})
}

// packet is a frame from a host to a group.
func packet(proto int, data string, g api.Addr) string {
	s, e := ipv4.Encode(api.V4{Ttl: 1, Proto: proto, Src: host, Dst: g, Data: data})
	m, wrong := ether.Group(g)
	if e != api.OK || wrong != api.OK {
		panic("no packet")
	}
	return bytesOf(api.Frame{Dst: m, Src: anna, Type: 0x0800, Data: s})
}

func dataTo(g api.Addr) string { return packet(17, "some data", g) }

func joins(g api.Addr) string { return says(api.Report, g) }

func leaves(g api.Addr) string { return says(api.Leave, g) }

// says is a message of version 2.
func says(kind int, g api.Addr) string {
	s, e := igmp.Encode(api.Message{Kind: kind, Version: 2, Group: g})
	if e != api.OK {
		panic("no message")
	}
	return packet(2, s, g)
}

// P24.1: 1 to 6 switches, each of which may be.
func TestNewSwitches(t *testing.T) {
	mayNot(t, nil)
	mayNot(t, []bridge.Config{})
	for switches := 1; switches <= 6; switches++ {
		made(t, configs(switches, 2))
		for bad := range switches {
			l := configs(switches, 2)
			l[bad].Every = 3
			mayNot(t, l)
			l[bad] = bridge.Config{}
			mayNot(t, l)
		}
	}
	mayNot(t, configs(7, 2))
	mayNot(t, configs(100, 2))
	// Ids may be alike.
	made(t, []bridge.Config{config(1, 2), config(1, 2)}, w(0, 0, 1, 0))
}

// P24.1: a wire's ends are ports of the switches.
func TestNewEnds(t *testing.T) {
	l := []bridge.Config{config(1, 2), config(2, 3), config(3, 1)}
	made(t, l, w(0, 1, 1, 2))
	made(t, l, w(1, 2, 0, 1))
	made(t, l, w(2, 0, 1, 2), w(0, 0, 1, 0))
	for _, bad := range []int{-1, 3, 4, math.MinInt, math.MaxInt} {
		mayNot(t, l, w(bad, 0, 1, 0))
		mayNot(t, l, w(1, 0, bad, 0))
		mayNot(t, l, w(0, 0, 1, 0), w(bad, 0, 1, 1))
		mayNot(t, l, w(0, 0, 1, 0), w(1, 1, bad, 0))
	}
	for _, bad := range []int{-1, 3, 4, math.MinInt, math.MaxInt} {
		mayNot(t, l, w(0, 0, 1, bad))
		mayNot(t, l, w(1, bad, 0, 0))
	}
	mayNot(t, l, w(0, 2, 1, 0))
	mayNot(t, l, w(1, 0, 0, 2))
	mayNot(t, l, w(1, 0, 2, 1))
}

// P24.1: no port stands twice; a wire may join two ports of one switch.
func TestNewPortsTwice(t *testing.T) {
	l := configs(3, 3)
	made(t, l, w(0, 0, 0, 1))
	made(t, l, w(0, 0, 1, 0), w(0, 1, 1, 1), w(0, 2, 1, 2))
	made(t, l, w(0, 1, 1, 0), w(1, 1, 0, 0), w(2, 0, 2, 1))
	mayNot(t, l, w(0, 0, 0, 0))
	mayNot(t, l, w(2, 1, 2, 1))
	for _, twice := range []net.Wire{w(0, 0, 2, 2), w(1, 1, 2, 2), w(2, 2, 0, 0), w(2, 2, 1, 1), w(0, 0, 1, 1), w(1, 1, 0, 0)} {
		mayNot(t, l, w(0, 0, 1, 1), twice)
		mayNot(t, l, w(0, 0, 1, 1), w(1, 0, 0, 1), twice)
		mayNot(t, l, w(1, 0, 0, 1), w(0, 0, 1, 1), w(2, 0, 2, 1), twice)
	}
}

// P24.1: 16 wires may be, 17 may not.
func TestNewWires(t *testing.T) {
	l := configs(6, 16)
	var wires []net.Wire
	for i := range 16 {
		wires = append(wires, w(i%5, i, 5, i))
		made(t, l, wires...)
	}
	mayNot(t, l, append(wires, w(0, 1, 1, 2))...)
	mayNot(t, l, append(wires, w(0, 1, 1, 2), w(0, 2, 1, 3))...)
}

// P24.1: all ports come up at 1, from which on the switches are.
func TestNewComesUpAtOne(t *testing.T) {
	l := []bridge.Config{config(1, 2), config(2, 3)}
	l[1].Self4 = self
	n := made(t, l, w(0, 0, 1, 0))
	opens(t, n, 0)
	for now := 1; now <= 30; now++ {
		n.Tick(now)
		opens(t, n, 0)
		opens(t, n, 1)
	}
	n.Tick(31)
	opens(t, n, 0, 0, 1)
	opens(t, n, 1, 0, 1, 2)
	n = made(t, l)
	b, _ := bridge.New(l[1], 1)
	for port := range 3 {
		b.Link(port, true, 1)
	}
	for _, now := range []int{1, 31, 40, 80} {
		var want []net.Delivery
		var first []net.Delivery
		for _, o := range b.Tick(now) {
			want = append(want, net.Delivery{Switch: 1, Port: o.Port, Bytes: o.Bytes})
		}
		for _, d := range n.Tick(now) {
			if d.Switch == 1 {
				first = append(first, d)
			}
		}
		if !slices.Equal(first, want) {
			t.Errorf("Tick of %d: %v, not %v", now, first, want)
		}
	}
}

// P24.1: of nil nothing comes.
func TestNil(t *testing.T) {
	for _, n := range []*net.Net{nil, new(net.Net)} {
		for _, s := range []int{0, 1, -1, math.MinInt, math.MaxInt} {
			for _, now := range []int{1, 2, 0, math.MaxInt} {
				if n.Send(s, 0, plain(all), now) != nil || n.Tick(now) != nil || n.Cut(s, false, now) != nil || n.Cut(s, true, now) != nil {
					t.Errorf("something comes of nil")
				}
			}
			if n.Open(s) != nil || n.Wants(s, 10, group, host, 1) != nil {
				t.Errorf("something is told of nil")
			}
		}
	}
}

// The example of the chapter.
func TestExample(t *testing.T) {
	n := rested(t, configs(2, 4), w(0, 3, 1, 1))
	delivers(t, n, 0, 1, plain(all), 81, place{0, 0}, place{0, 2}, place{1, 0}, place{1, 2}, place{1, 3})
	delivers(t, n, 1, 0, plain(all), 81, place{1, 2}, place{1, 3}, place{0, 0}, place{0, 1}, place{0, 2})
}

// P24.2: of no switch, or no port, or bytes that are no frame, nothing comes.
func TestSendOfNothing(t *testing.T) {
	n := rested(t, configs(2, 3), w(0, 0, 1, 0))
	for _, bad := range []int{-1, 2, 6, math.MinInt, math.MaxInt} {
		delivers(t, n, bad, 1, plain(all), 81)
	}
	for _, bad := range []int{-1, 3, 16, math.MinInt, math.MaxInt} {
		delivers(t, n, 0, bad, plain(all), 81)
	}
	for _, bytes := range []string{"", plain(all)[:13]} {
		delivers(t, n, 0, 1, bytes, 81)
	}
	for _, now := range badTimes {
		delivers(t, n, 0, 1, plain(all), now)
		if l := n.Tick(now); len(l) != 0 {
			t.Errorf("Tick of %d: %v", now, l)
		}
	}
}

// P24.2: what is sent to the port of a wire comes to that switch alone, and is not back at the wire's other end.
func TestSendAtAWire(t *testing.T) {
	n := rested(t, configs(2, 3), w(0, 0, 1, 0))
	delivers(t, n, 0, 0, plain(all), 81, place{0, 1}, place{0, 2})
	delivers(t, n, 1, 0, plain(all), 81, place{1, 1}, place{1, 2})
}

// P24.2: frames travel in the order in which they were sent, switch by switch: first those of the nearer switches.
func TestOrder(t *testing.T) {
	//  0 has wires at 0 to 1, at 2 to 2, and hosts at 1 and 3; 1 has a wire to 3.
	n := rested(t, configs(4, 4), w(0, 0, 1, 1), w(2, 0, 0, 2), w(1, 2, 3, 3))
	delivers(t, n, 0, 1, plain(all), 81,
		place{0, 3},
		place{1, 0}, place{1, 3},
		place{2, 1}, place{2, 2}, place{2, 3},
		place{3, 0}, place{3, 1}, place{3, 2})
	delivers(t, n, 3, 0, plain(all), 81,
		place{3, 1}, place{3, 2},
		place{1, 0}, place{1, 3},
		place{0, 1}, place{0, 3},
		place{2, 1}, place{2, 2}, place{2, 3})
}

// kindsOf are the switches and ports of deliveries, and whether each is the tree's.
func kindsOf(l []net.Delivery) []string {
	var out []string
	for _, d := range l {
		s := string([]byte{'0' + byte(d.Switch), byte('0' + d.Port)})
		if api.Mac(d.Bytes[:6]) == bpdu.To() {
			s += "t"
		}
		out = append(out, s)
	}
	return out
}

// P24.2: a tick is that of each switch in turn; all that these send travels behind that, in this order.
func TestTickInOrder(t *testing.T) {
	l := configs(3, 3)
	l[1].Self4 = self
	n := made(t, l, w(0, 0, 1, 0), w(1, 2, 2, 1))
	through(n, 1, 59)
	// 1 asks at 66: its query goes out at its own port first, as do all switches' messages of the tree.
	for now := 60; now < 66; now++ {
		n.Tick(now)
	}
	want := []string{"01t", "02t", "11t", "11", "20t", "22t", "01", "02", "20", "22"}
	if got := kindsOf(n.Tick(66)); !slices.Equal(got, want) {
		t.Errorf("at 66: %v, not %v", got, want)
	}
	if got := kindsOf(n.Tick(67)); len(got) != 0 {
		t.Errorf("at 67: %v", got)
	}
}

// P24.2: a cut wire lets nothing through, and its ports are down, from then on; up again it does, when the tree lets it.
func TestCut(t *testing.T) {
	n := rested(t, configs(2, 3), w(0, 0, 1, 2))
	delivers(t, n, 0, 1, plain(all), 81, place{0, 2}, place{1, 0}, place{1, 1})
	if l := n.Cut(0, false, 81); len(l) != 0 {
		t.Errorf("Cut: %v", l)
	}
	opens(t, n, 0, 1, 2)
	opens(t, n, 1, 0, 1)
	delivers(t, n, 0, 1, plain(all), 81, place{0, 2})
	delivers(t, n, 1, 0, plain(all), 81, place{1, 1})
	delivers(t, n, 0, 0, plain(all), 81)
	through(n, 82, 89)
	if l := n.Cut(0, true, 90); len(l) != 0 {
		t.Errorf("Cut: %v", l)
	}
	delivers(t, n, 0, 1, plain(all), 90, place{0, 2})
	through(n, 90, 119)
	delivers(t, n, 0, 1, plain(all), 119, place{0, 2})
	n.Tick(120)
	delivers(t, n, 0, 1, plain(all), 120, place{0, 2}, place{1, 0}, place{1, 1})
}

// P24.2: nothing is done where there is no such wire, or it is so already: ports stay as long up as they were.
func TestCutOfNothing(t *testing.T) {
	n := rested(t, configs(2, 3), w(0, 0, 1, 2))
	for _, bad := range []int{-1, 1, 16, math.MinInt, math.MaxInt} {
		n.Cut(bad, false, 81)
		n.Cut(bad, true, 81)
	}
	n.Cut(0, true, 81)
	delivers(t, n, 0, 1, plain(all), 81, place{0, 2}, place{1, 0}, place{1, 1})
	n.Cut(0, false, 82)
	n.Cut(0, true, 84)
	n.Cut(0, false, 83)
	n.Cut(0, false, 100)
	n.Cut(0, true, 110)
	n.Cut(0, true, 120)
	through(n, 120, 139)
	opens(t, n, 0, 1, 2)
	n.Tick(140)
	opens(t, n, 0, 0, 1, 2)
}

// P24.2: of a wire that is cut both ends forget what was known there; other wires stay.
func TestCutForgets(t *testing.T) {
	l := configs(3, 3)
	l[0].Self4 = self
	n := rested(t, l, w(0, 0, 1, 0), w(1, 1, 2, 1))
	n.Send(2, 0, joins(group), 81)
	wants(t, n, 2, 81, 0)
	wants(t, n, 1, 81, 1)
	wants(t, n, 0, 81, 0)
	n.Cut(1, false, 81)
	wants(t, n, 2, 81, 0)
	wants(t, n, 1, 81)
	wants(t, n, 0, 81, 0)
	opens(t, n, 0, 0, 1, 2)
	opens(t, n, 1, 0, 2)
	opens(t, n, 2, 0, 2)
	n.Cut(0, false, 81)
	wants(t, n, 0, 81)
}

// P24.2: at a time at which the switches do nothing the wire is cut all the same.
func TestCutAtABadTime(t *testing.T) {
	for _, now := range badTimes {
		n := rested(t, configs(2, 3), w(0, 0, 1, 2))
		n.Cut(0, false, now)
		opens(t, n, 0, 0, 1, 2)
		delivers(t, n, 0, 1, plain(all), 81, place{0, 2})
		n.Cut(0, true, now)
		delivers(t, n, 0, 1, plain(all), 81, place{0, 2}, place{1, 0}, place{1, 1})
	}
}

// P24.2: links go up and down at A first, and then at B: where both are one switch's, too.
func TestCutOfOneSwitch(t *testing.T) {
	n := rested(t, configs(1, 4), w(0, 3, 0, 1))
	opens(t, n, 0, 0, 1, 2)
	delivers(t, n, 0, 0, plain(all), 81, place{0, 2})
	n.Cut(0, false, 81)
	opens(t, n, 0, 0, 2)
	n.Cut(0, true, 82)
	through(n, 82, 140)
	opens(t, n, 0, 0, 1, 2)
}

// P24.3: Open and Wants are a switch's; of none that there is not.
func TestWhatIsTold(t *testing.T) {
	l := []bridge.Config{config(1, 2), config(2, 3)}
	l[0].Self4 = self
	n := rested(t, l, w(0, 1, 1, 2))
	n.Send(1, 0, joins(group), 81)
	for _, bad := range []int{-1, 2, 6, math.MinInt, math.MaxInt} {
		opens(t, n, bad)
		wants(t, n, bad, 81)
	}
	opens(t, n, 0, 0, 1)
	opens(t, n, 1, 0, 1, 2)
	wants(t, n, 0, 81, 1)
	wants(t, n, 1, 81, 0)
	wants(t, n, 1, 140, 0)
	wants(t, n, 1, 141)
	if len(n.Wants(1, 11, group, host, 81)) != 0 || len(n.Wants(1, 10, "\xe0\x01\x02\x04", host, 81)) != 0 {
		t.Errorf("too much is wanted")
	}
	n.Send(1, 1, joins(group), 81)
	wants(t, n, 1, 81, 0, 1)
}

// R5: what New is given is not changed, and counts no more once it is made; what is told is new.
func TestNothingIsShared(t *testing.T) {
	l, wires := configs(2, 3), []net.Wire{w(0, 0, 1, 2)}
	n, e := net.New(l, wires)
	if e != api.OK || wires[0] != w(0, 0, 1, 2) || l[0].Id != 1 || len(l[1].Ports) != 3 || l[1].Ports[2].Plain[0] != 10 || l[1].Costs[2] != 10 {
		t.Errorf("what was handed in: %v, %v, %d", l, wires, e)
	}
	wires[0] = w(0, 1, 1, 1)
	for s := range l {
		for port := range l[s].Ports {
			l[s].Ports[port].Plain[0] = 20
			l[s].Ports[port] = api.Port{}
			l[s].Costs[port] = 99
		}
	}
	l[0] = bridge.Config{}
	through(n, 1, 80)
	bytes := []byte(plain(all))
	got := n.Send(0, 1, unsafe.String(&bytes[0], len(bytes)), 81)
	clear(bytes)
	if want := []net.Delivery{{0, 2, plain(all)}, {1, 0, plain(all)}, {1, 1, plain(all)}}; !slices.Equal(got, want) {
		t.Errorf("behind a change: %v", got)
	}
	clear(got[:cap(got)])
	open := n.Open(1)
	clear(open[:cap(open)])
	opens(t, n, 1, 0, 1, 2)
	delivers(t, n, 0, 1, plain(all), 81, place{0, 2}, place{1, 0}, place{1, 1})
}

// R6: two nets know nothing of one another.
func TestSideBySide(t *testing.T) {
	l := configs(2, 3)
	a, b := rested(t, l, w(0, 0, 1, 2)), rested(t, l, w(0, 0, 1, 2))
	a.Send(0, 1, joins(group), 81)
	a.Cut(0, false, 81)
	wants(t, b, 0, 81)
	delivers(t, b, 0, 1, plain(all), 81, place{0, 2}, place{1, 0}, place{1, 1})
}
