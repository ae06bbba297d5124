package net_test

import (
	"slices"
	"testing"

	"siphon/api"
	"siphon/bridge"
	"siphon/net"
	"siphon/prio"
	"siphon/tree"
)

// linksOf are the wires as the tree's links.
func linksOf(l []bridge.Config, wires []net.Wire) ([]uint64, []tree.Link) {
	var ids []uint64
	for _, c := range l {
		ids = append(ids, c.Id)
	}
	var links []tree.Link
	for _, x := range wires {
		links = append(links, tree.Link{A: x.A, PortA: x.PortA, B: x.B, PortB: x.PortB, Cost: l[x.A].Costs[x.PortA]})
	}
	return ids, links
}

// mustBeOpen are the ports that are open at rest, switch by switch: all but those at an end that is Alternate.
func mustBeOpen(t *testing.T, l []bridge.Config, wires []net.Wire) [][]int {
	t.Helper()
	ids, links := linksOf(l, wires)
	roles, e := tree.Rest(ids, links)
	if e != api.OK {
		t.Fatalf("Rest of %v, %v: %d", ids, links, e)
	}
	shut := map[place]bool{}
	for i, x := range wires {
		shut[place{x.A, x.PortA}] = roles[i][0] == prio.Alternate
		shut[place{x.B, x.PortB}] = roles[i][1] == prio.Alternate
	}
	open := make([][]int, len(l))
	for s, c := range l {
		for port := range c.Ports {
			if !shut[place{s, port}] {
				open[s] = append(open[s], port)
			}
		}
	}
	return open
}

// partsOf tells of each switch which one is the first that hangs together with it.
func partsOf(switches int, wires []net.Wire) []int {
	var part []int
	for s := range switches {
		part = append(part, s)
	}
	for range switches {
		for _, x := range wires {
			least := min(part[x.A], part[x.B])
			part[x.A], part[x.B] = least, least
		}
	}
	return part
}

// hostsOf are the ports without a wire.
func hostsOf(l []bridge.Config, wires []net.Wire) []place {
	wired := map[place]bool{}
	for _, x := range wires {
		wired[place{x.A, x.PortA}], wired[place{x.B, x.PortB}] = true, true
	}
	var hosts []place
	for s, c := range l {
		for port := range c.Ports {
			if !wired[place{s, port}] {
				hosts = append(hosts, place{s, port})
			}
		}
	}
	return hosts
}

// reaches are the hosts to which a frame of one comes: all others of those that hang together with it.
func reaches(l []bridge.Config, wires []net.Wire, from place) []place {
	part := partsOf(len(l), wires)
	return slices.DeleteFunc(hostsOf(l, wires), func(h place) bool { return h == from || part[h[0]] != part[from[0]] })
}

// comesOnce tells that a frame must come to just these hosts, once each, as it was sent.
func comesOnce(t *testing.T, got []net.Delivery, bytes string, want []place) {
	t.Helper()
	at := places(got)
	slices.SortFunc(at, func(a, b place) int { return slices.Compare(a[:], b[:]) })
	if !slices.Equal(at, want) {
		t.Errorf("comes to %v, not %v", at, want)
	}
	for _, d := range got {
		if d.Bytes != bytes {
			t.Errorf("comes as %x", d.Bytes)
		}
	}
}

// atRest tells that P24.4 and P24.5 must hold of a net, behind 80 ticks from 1 on.
func atRest(t *testing.T, l []bridge.Config, wires ...net.Wire) {
	t.Helper()
	n := rested(t, l, wires...)
	for s, want := range mustBeOpen(t, l, wires) {
		opens(t, n, s, want...)
	}
	for _, h := range hostsOf(l, wires) {
		comesOnce(t, n.Send(h[0], h[1], plain(all), 81), plain(all), reaches(l, wires, h))
	}
	if t.Failed() {
		t.Fatalf("of %v, %v", l, wires)
	}
}

// cost gives the ports of a wire a cost.
func cost(l []bridge.Config, x net.Wire, n int) {
	l[x.A].Costs[x.PortA], l[x.B].Costs[x.PortB] = n, n
}

// P24.4, P24.5: nets by themselves: one switch, a chain, a star, a ring, two wires between two switches, a wire of one switch, parts that do not hang together, all to all.
func TestAtRest(t *testing.T) {
	atRest(t, configs(1, 1))
	atRest(t, configs(1, 16))
	atRest(t, configs(6, 3))
	atRest(t, configs(6, 3), w(0, 0, 1, 0), w(1, 1, 2, 0), w(2, 1, 3, 0), w(3, 1, 4, 0), w(4, 1, 5, 0))
	atRest(t, configs(6, 3), w(5, 0, 4, 0), w(4, 1, 3, 0), w(3, 1, 2, 0), w(2, 1, 1, 0), w(1, 1, 0, 0))
	atRest(t, configs(6, 6), w(2, 0, 0, 3), w(2, 1, 1, 3), w(2, 2, 3, 3), w(2, 3, 4, 3), w(2, 5, 5, 3))
	atRest(t, configs(3, 3), w(0, 0, 1, 1), w(1, 0, 2, 1), w(2, 0, 0, 1))
	atRest(t, configs(6, 3), w(0, 0, 1, 1), w(1, 0, 2, 1), w(2, 0, 3, 1), w(3, 0, 4, 1), w(4, 0, 5, 1), w(5, 0, 0, 1))
	atRest(t, configs(2, 3), w(0, 0, 1, 1), w(1, 2, 0, 2))
	atRest(t, configs(2, 4), w(0, 0, 1, 1), w(1, 2, 0, 2), w(0, 3, 1, 3))
	atRest(t, configs(1, 3), w(0, 0, 0, 2))
	atRest(t, configs(1, 5), w(0, 4, 0, 1), w(0, 0, 0, 3))
	atRest(t, configs(2, 4), w(0, 0, 0, 1), w(1, 3, 1, 2), w(0, 2, 1, 0))
	atRest(t, configs(4, 4), w(0, 0, 1, 0), w(0, 1, 1, 1), w(2, 0, 3, 0), w(2, 1, 3, 1))
	var l []net.Wire
	for a := range 6 {
		for b := range a {
			l = append(l, w(a, b, b, a))
		}
	}
	atRest(t, configs(6, 7), l...)
	atRest(t, configs(6, 16), append(l, w(0, 8, 5, 8))...)
}

// P24.4: the way that costs less is open, whichever switches it goes by; Ids may be any numbers.
func TestAtRestByCosts(t *testing.T) {
	for _, ids := range [][]uint64{{1, 2, 3}, {3, 2, 1}, {2, 3, 1}, {1 << 63, 0, 1<<64 - 1}} {
		for _, costs := range [][]int{{1, 1, 1}, {1, 1, 3}, {5, 1, 1}, {200000000, 1, 200000000}, {2, 200000000, 1}} {
			l := configs(3, 3)
			wires := []net.Wire{w(0, 0, 1, 1), w(1, 0, 2, 1), w(2, 0, 0, 1)}
			for i, id := range ids {
				l[i].Id = id
				cost(l, wires[i], costs[i])
			}
			atRest(t, l, wires...)
		}
	}
}

// P24.4, P24.5: in any net.
func TestAtRestInAnyNet(t *testing.T) {
	d := &dice{seed: 3}
	for range 250 {
		l, wires := someNet(d)
		atRest(t, l, wires...)
	}
}

// P24.4, P2: left alone behind a cut, and behind its being mended, the net comes to rest again.
func TestAtRestBehindACut(t *testing.T) {
	d := &dice{seed: 4}
	for range 60 {
		l, wires := someNet(d)
		if len(wires) == 0 {
			continue
		}
		n := rested(t, l, wires...)
		i := d.below(len(wires))
		n.Cut(i, false, 81)
		through(n, 81, 200)
		whole := wires[i]
		ends := []place{{whole.A, whole.PortA}, {whole.B, whole.PortB}}
		left := slices.Delete(slices.Clone(wires), i, i+1)
		for s, want := range mustBeOpen(t, l, left) {
			opens(t, n, s, slices.DeleteFunc(want, func(port int) bool { return slices.Contains(ends, place{s, port}) })...)
		}
		for _, h := range hostsOf(l, wires) {
			want := slices.DeleteFunc(reaches(l, left, h), func(h place) bool { return slices.Contains(ends, h) })
			comesOnce(t, n.Send(h[0], h[1], plain(all), 200), plain(all), want)
		}
		n.Cut(i, true, 201)
		through(n, 201, 320)
		for s, want := range mustBeOpen(t, l, wires) {
			opens(t, n, s, want...)
		}
	}
}

// Example 10 of the whole: where a wire is cut another way opens behind 30 ticks.
func TestAnotherWay(t *testing.T) {
	l := configs(3, 3)
	n := rested(t, l, w(0, 0, 1, 1), w(1, 0, 2, 1), w(2, 0, 0, 1))
	opens(t, n, 2, 0, 2)
	n.Cut(2, false, 81)
	delivers(t, n, 2, 2, plain(all), 81)
	through(n, 81, 90)
	delivers(t, n, 2, 2, plain(all), 90)
	through(n, 91, 111)
	opens(t, n, 2, 1, 2)
	delivers(t, n, 2, 2, plain(all), 111, place{1, 2}, place{0, 2})
}

// P24.5: in a VLAN with tags at the wires nothing is otherwise.
func TestOnceWithTags(t *testing.T) {
	l := configs(4, 4)
	wires := []net.Wire{w(0, 0, 1, 1), w(1, 0, 2, 1), w(2, 0, 3, 1), w(3, 0, 0, 1), w(0, 3, 2, 3)}
	for _, x := range wires {
		l[x.A].Ports[x.PortA] = api.Port{Tagged: []int{10, 20}}
		l[x.B].Ports[x.PortB] = api.Port{Tagged: []int{10, 20}}
	}
	l[1].Ports[3] = api.Port{Default: 20, Plain: []int{20}}
	l[3].Ports[3] = api.Port{Default: 20, Plain: []int{20}}
	n := rested(t, l, wires...)
	comesOnce(t, n.Send(1, 3, plain(all), 81), plain(all), []place{{3, 3}})
	comesOnce(t, n.Send(0, 2, plain(all), 81), plain(all), []place{{1, 2}, {2, 2}, {3, 2}})
}

// asking lets just one switch ask, so often.
func asking(l []bridge.Config, s int, every int) {
	for i := range l {
		l[i].Member, l[i].Age = 60, 60
	}
	l[s].Self4, l[s].Every = self, every
}

// members tells that P24.6 must hold of a net, of each host that may report: a frame of each other one is delivered to it, once.
func members(t *testing.T, l []bridge.Config, asker int, wires ...net.Wire) {
	t.Helper()
	n := rested(t, l, wires...)
	part := partsOf(len(l), wires)
	for i, h := range hostsOf(l, wires) {
		if part[h[0]] != part[asker] {
			continue
		}
		// Each host with a group of its own: so one net is enough.
		g := api.Addr([]byte{239, 1, 2, byte(i)})
		n.Send(h[0], h[1], joins(g), 81)
		for _, from := range reaches(l, wires, h) {
			times := 0
			for _, p := range places(n.Send(from[0], from[1], dataTo(g), 82)) {
				if p == h {
					times++
				}
			}
			if times != 1 {
				t.Fatalf("from %v to %v: %d times; %v, %v, %d asks", from, h, times, l, wires, asker)
			}
		}
	}
}

// P24.6: who reports is told, where one switch asks.
func TestMembers(t *testing.T) {
	for asker := range 3 {
		for _, every := range []int{4, 7, 20} {
			l := configs(3, 4)
			asking(l, asker, every)
			members(t, l, asker, w(0, 0, 1, 1), w(1, 0, 2, 1), w(2, 0, 0, 1))
			l = configs(4, 4)
			asking(l, asker, every)
			members(t, l, asker, w(0, 0, 1, 1), w(1, 0, 2, 1), w(2, 0, 0, 1))
		}
	}
	d := &dice{seed: 6}
	for range 120 {
		l, wires := someNet(d)
		asker := d.below(len(l))
		asking(l, asker, 4+d.below(17))
		for s := range l {
			l[s].Flood, l[s].Fast, l[s].Robust, l[s].Last = d.below(2) == 0, d.below(2) == 0, 1+d.below(7), 1+d.below(9)
			if s != asker {
				l[s].Every = pick(d, 4, 20, 1000)
			}
			l[s].Age += pick(d, 0, 0, 500)
		}
		members(t, l, asker, wires...)
	}
}

// P24.6, P4: and nobody else is, where nothing is flooded and no router was heard but the switch that asks.
func TestMembersAlone(t *testing.T) {
	l := configs(4, 4)
	asking(l, 1, 20)
	n := rested(t, l, w(0, 0, 1, 1), w(1, 0, 2, 1), w(2, 0, 0, 1), w(2, 2, 3, 2))
	n.Send(3, 0, joins(group), 81)
	for _, from := range []place{{0, 2}, {1, 2}, {1, 3}, {2, 3}, {3, 1}, {3, 3}} {
		delivers(t, n, from[0], from[1], dataTo(group), 82, place{3, 0})
	}
	delivers(t, n, 3, 0, dataTo(group), 82)
	delivers(t, n, 0, 2, dataTo("\xe0\x01\x02\x04"), 82)
	n.Send(0, 3, joins(group), 82)
	comesOnce(t, n.Send(3, 1, dataTo(group), 82), dataTo(group), []place{{0, 3}, {3, 0}})
	comesOnce(t, n.Send(0, 3, dataTo(group), 82), dataTo(group), []place{{3, 0}})
}

// Example 9 of the whole: of two that ask the lesser address goes on.
func TestTwoThatAsk(t *testing.T) {
	l := configs(2, 3)
	l[0].Self4, l[1].Self4 = "\x0a\x00\x00\x07", "\x0a\x00\x00\x06"
	n := rested(t, l, w(0, 0, 1, 0))
	of := map[byte]int{}
	for now := 81; now <= 160; now++ {
		for _, d := range n.Tick(now) {
			if d.Switch == 0 && d.Port == 1 && d.Bytes[12:14] == "\x08\x00" {
				of[d.Bytes[11]]++
			}
		}
	}
	if of[1] != 0 || of[2] != 4 {
		t.Errorf("asked by %v", of)
	}
}
