package net_test

import (
	"math"
	"slices"
	"testing"

	"siphon/api"
	"siphon/bridge"
	"siphon/net"
)

// model is a net that goes by the document's words: what is sent stands in a list.
type model struct {
	switches []*bridge.Bridge
	wires    []net.Wire
	up       []bool
	taken    int // at wires' ends, by the last call
	lost     int // by it, behind 2000
}

func modelOf(l []bridge.Config, wires []net.Wire) *model {
	m := &model{wires: wires, up: make([]bool, len(wires))}
	for _, c := range l {
		b, _ := bridge.New(c, 1)
		for port := range c.Ports {
			b.Link(port, true, 1)
		}
		m.switches = append(m.switches, b)
	}
	for i := range wires {
		m.up[i] = true
	}
	return m
}

// sent is a frame that a switch has sent.
type sent struct {
	number int
	out    api.Out
}

func sentBy(s int, l []api.Out) []sent {
	var all []sent
	for _, o := range l {
		all = append(all, sent{s, o})
	}
	return all
}

// wire is the place of a wire in the list, and what is at its other end; -1, if there is none.
func (m *model) wire(s, port int) (int, int, int) {
	for i, x := range m.wires {
		if x.A == s && x.PortA == port {
			return i, x.B, x.PortB
		}
		if x.B == s && x.PortB == port {
			return i, x.A, x.PortA
		}
	}
	return -1, 0, 0
}

func (m *model) travel(all []sent, now int) []net.Delivery {
	var l []net.Delivery
	m.taken, m.lost = 0, 0
	for ; len(all) > 0; all = all[1:] {
		f := all[0]
		i, s, port := m.wire(f.number, f.out.Port)
		switch {
		case i < 0:
			l = append(l, net.Delivery{Switch: f.number, Port: f.out.Port, Bytes: f.out.Bytes})
		case !m.up[i]:
		case m.taken == 2000:
			m.lost++
		default:
			m.taken++
			all = append(all, sentBy(s, m.switches[s].Take(port, f.out.Bytes, now))...)
		}
	}
	return l
}

func (m *model) send(s, port int, bytes string, now int) []net.Delivery {
	if s < 0 || s >= len(m.switches) {
		return nil
	}
	return m.travel(sentBy(s, m.switches[s].Take(port, bytes, now)), now)
}

func (m *model) tick(now int) []net.Delivery {
	var all []sent
	for s, b := range m.switches {
		all = append(all, sentBy(s, b.Tick(now))...)
	}
	return m.travel(all, now)
}

func (m *model) cut(i int, up bool, now int) {
	if i < 0 || i >= len(m.wires) || m.up[i] == up {
		return
	}
	m.up[i] = up
	x := m.wires[i]
	m.switches[x.A].Link(x.PortA, up, now)
	m.switches[x.B].Link(x.PortB, up, now)
}

// dice throw numbers that are the same each time.
type dice struct{ seed uint32 }

func (d *dice) below(n int) int {
	d.seed = d.seed*1664525 + 1013904223
	return int(d.seed>>8) % n
}

func pick[T any](d *dice, l ...T) T { return l[d.below(len(l))] }

// someNet is switches with unlike Ids, of so many ports, and wires between some of these; a wire's ends have the same Cost.
func someNet(d *dice) ([]bridge.Config, []net.Wire) {
	var l []bridge.Config
	var free []place
	id := uint64(d.below(3))
	for s := range 1 + d.below(6) {
		l = append(l, config(id, 2+d.below(5)))
		id += uint64(1 + d.below(3))
		for port := range l[s].Ports {
			free = append(free, place{s, port})
		}
	}
	// The Ids in any order.
	for i := range l {
		j := d.below(i + 1)
		l[i].Id, l[j].Id = l[j].Id, l[i].Id
	}
	var wires []net.Wire
	for range d.below(17) {
		if len(free) < 2 {
			break
		}
		a := d.take(&free)
		b := d.take(&free)
		wires = append(wires, w(a[0], a[1], b[0], b[1]))
		cost := 1 + d.below(4)
		l[a[0]].Costs[a[1]], l[b[0]].Costs[b[1]] = cost, cost
	}
	return l, wires
}

// take is one of the places, which is not among them any more.
func (d *dice) take(l *[]place) place {
	i := d.below(len(*l))
	p := (*l)[i]
	*l = slices.Delete(*l, i, i+1)
	return p
}

// vary lets some ask, and some be in other VLANs.
func vary(d *dice, l []bridge.Config) {
	for s := range l {
		if d.below(2) == 0 {
			l[s].Self4 = api.Addr([]byte{10, 0, 0, byte(10 - s)})
		}
		l[s].Robust, l[s].Every, l[s].Flood = 1+d.below(7), 4+d.below(30), d.below(2) == 0
		for port := range l[s].Ports {
			if d.below(5) == 0 {
				l[s].Ports[port] = api.Port{Default: 20, Tagged: []int{10, 20}}
			}
		}
	}
}

// P24.2: whatever is sent, in whatever net, it travels as the document says; storms, too.
func TestAgainstTheModel(t *testing.T) {
	d := &dice{seed: 1}
	delivered, storms := 0, 0
	for range 60 {
		l, wires := someNet(d)
		vary(d, l)
		n, m := made(t, l, wires...), modelOf(l, wires)
		now := 1
		for range 120 {
			at := now
			if d.below(30) == 0 {
				at = pick(d, badTimes...)
			}
			var got, want []net.Delivery
			switch x := d.below(10); {
			case x < 4:
				// Behind a leap all ports may be open, till the tree has been told of otherwise.
				now += pick(d, 1, 1, 1, 2, 3, 33)
				got, want = n.Tick(now), m.tick(now)
			case x == 4:
				i, up := d.below(len(wires)+2)-1, d.below(2) == 0
				got = n.Cut(i, up, at)
				m.cut(i, up, at)
			default:
				s, port := d.below(len(l)+1), d.below(7)
				bytes := pick(d, plain(all), plain(anna), dataTo(group), joins(group), dataTo("\xe0\x00\x00\x05"))
				got, want = n.Send(s, port, bytes, at), m.send(s, port, bytes, at)
			}
			if !slices.Equal(got, want) {
				t.Fatalf("at %d: %v, not %v", at, places(got), places(want))
			}
			delivered += len(want)
			if m.lost > 0 {
				storms++
			}
			for s := range l {
				opens(t, n, s, m.switches[s].Open()...)
				wants(t, n, s, at, m.switches[s].Wants(10, group, host, at)...)
			}
		}
	}
	// It is a test of something only if much comes out.
	if delivered < 10000 || storms < 10 {
		t.Errorf("%d were delivered, %d storms", delivered, storms)
	}
}

// ring is a net of three switches in a ring, each with a port for a host at 2, all of whose ports are open at 41: the tree has not been told of yet.
func ring(t *testing.T, hosts ...int) (*net.Net, *model) {
	t.Helper()
	var l []bridge.Config
	for s, n := range hosts {
		l = append(l, config(uint64(s+1), 2+n))
	}
	wires := []net.Wire{w(0, 0, 1, 1), w(1, 0, 2, 1), w(2, 0, 0, 1)}
	n, m := made(t, l, wires...), modelOf(l, wires)
	n.Tick(41)
	m.tick(41)
	return n, m
}

// P24.2: in a ring without a tree 2000 are taken at wires' ends: each that comes to a switch with a host is delivered there. The first one, of Send itself, is none of them.
func TestStorm(t *testing.T) {
	n, m := ring(t, 1, 1, 1)
	l := n.Send(0, 2, plain(all), 41)
	// Two frames go round, one either way, and each is delivered at each switch it comes to.
	if len(l) != 2000 {
		t.Errorf("%d are delivered", len(l))
	}
	if want := m.send(0, 2, plain(all), 41); !slices.Equal(l, want) || m.taken != 2000 || m.lost != 2 {
		t.Errorf("not %d", len(want))
	}
	// Of two ports of the first one, the other is told at once, ahead of all that travels.
	n, _ = ring(t, 2, 1, 1)
	l = n.Send(0, 2, plain(all), 41)
	// Each third time of 1000, for either frame, it comes to both ports.
	if len(l) != 1+2000+666 || l[0] != (net.Delivery{Switch: 0, Port: 3, Bytes: plain(all)}) {
		t.Errorf("%d are delivered, first %v", len(l), places(l[:1]))
	}
}

// P24.2: just as many as 2000 are all taken; the deliveries of the last one are told.
func TestStormOfFew(t *testing.T) {
	n, _ := ring(t, 1, 0, 0)
	l := n.Send(0, 2, plain(all), 41)
	// Each of the two comes to the switch with the host each third time: 333 times of 1000.
	if len(l) != 666 {
		t.Errorf("%d are delivered", len(l))
	}
	n, _ = ring(t, 0, 1, 0)
	// By one way it comes there at the first end, by the other one at the second.
	if l := n.Send(1, 2, plain(all), 41); len(l) != 666 {
		t.Errorf("%d are delivered", len(l))
	}
}

// P24.2: 2000 count for one call: the next one has as many again, and nothing of the last one comes.
func TestStormsByThemselves(t *testing.T) {
	n, m := ring(t, 1, 1, 1)
	for range 3 {
		if got, want := n.Send(1, 2, plain(all), 41), m.send(1, 2, plain(all), 41); !slices.Equal(got, want) || len(want) != 2000 {
			t.Errorf("%d, not %d", len(got), len(want))
		}
	}
	if l := n.Tick(43); len(l) != 0 {
		t.Errorf("at 43: %v", places(l))
	}
	// At an even time the tree is told, and then there is no storm.
	through(n, 44, 50)
	if l := n.Send(0, 2, plain(all), 51); len(l) != 2 {
		t.Errorf("at 51: %v", places(l))
	}
}

// asks is a net whose first switch has so many questions, which are due at each time from 56 to 60.
func asks(t *testing.T, l []bridge.Config, questions int, wires ...net.Wire) (*net.Net, *model) {
	t.Helper()
	l[0].Self4, l[0].Robust, l[0].Last, l[0].Every, l[0].Room = self, 5, 1, 1000, 1000
	for s := range l {
		l[s].Member = 1000
	}
	n, m := made(t, l, wires...), modelOf(l, wires)
	for now := 1; now <= 56; now++ {
		n.Tick(now)
		m.tick(now)
	}
	for x := range questions {
		g := api.Addr([]byte{224, 1, 1, byte(x)})
		for _, s := range []string{joins(g), leaves(g)} {
			n.Send(0, 0, s, 56)
			m.send(0, 0, s, 56)
		}
	}
	return n, m
}

// P24.2: a tick's frames, too, are 2000 at most: 200 questions five times, out of two wires, are just as many; with one of the tree's messages more one is lost.
func TestTickOfMany(t *testing.T) {
	wires := []net.Wire{w(0, 1, 1, 0), w(0, 2, 2, 0)}
	n, m := asks(t, configs(3, 3), 200, wires...)
	got, want := n.Tick(61), m.tick(61)
	if !slices.Equal(got, want) || m.taken != 2000 || m.lost != 0 || len(got) != 5000 {
		t.Errorf("%d, not %d; %d", len(got), len(want), m.taken)
	}
	n, m = asks(t, configs(3, 3), 200, wires...)
	got, want = n.Tick(60), m.tick(60)
	if !slices.Equal(got, want) || m.taken != 2000 || m.lost != 2 {
		t.Errorf("%d, not %d; %d, %d", len(got), len(want), m.taken, m.lost)
	}
	n, m = asks(t, configs(3, 3), 199, wires...)
	got, want = n.Tick(60), m.tick(60)
	if !slices.Equal(got, want) || m.taken != 1992 || m.lost != 0 {
		t.Errorf("%d, not %d; %d, %d", len(got), len(want), m.taken, m.lost)
	}
}

// R1: whatever it is given, each call ends.
func TestAnything(t *testing.T) {
	d := &dice{seed: 5}
	for range 100 {
		l, wires := someNet(d)
		vary(d, l)
		n := made(t, l, wires...)
		for range 40 {
			now := pick(d, 1, 41, 42, 80, lastTime, 0, math.MinInt, math.MaxInt)
			bytes := []byte(pick(d, plain(all), joins(group), dataTo(group)))
			for range d.below(4) {
				bytes[d.below(len(bytes))] = byte(d.below(256))
			}
			n.Send(pick(d, 0, 1, -1, math.MaxInt), pick(d, 0, 1, 2, -1, math.MinInt), string(bytes), now)
			n.Tick(now)
			n.Cut(pick(d, 0, 1, -1, math.MinInt, math.MaxInt), d.below(2) == 0, now)
		}
	}
}
