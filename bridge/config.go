package bridge

import (
	"slices"
	"strings"

	"siphon/api"
	"siphon/rstp"
	"siphon/vlan"
)

const (
	mostVlans  = 20
	leastEvery = 4
	mostEvery  = 1000
	mostRobust = 7
	mostMember = 1000
	mostLast   = 1000
	mostAge    = 10000
	mostRoom   = 1000
)

// How many bytes an address has: by that it is told of which kind a group, a message or a querier is.
const (
	size4 = 4
	size6 = 16
)

// Config is what a switch is.
type Config struct {
	Id     uint64
	Costs  []int
	Ports  []api.Port
	Self4  api.Addr
	Self6  api.Addr
	Every  int
	Robust int
	Member int
	Last   int
	Age    int
	Room   int
	Flood  bool
	Fast   bool
}

// Check tells whether one may be so.
func Check(c Config) api.Errno {
	if !portsMayBe(c) || !mayAsk(c.Self4, size4) || !mayAsk(c.Self6, size6) {
		return api.ErrForm
	}
	if !within(c.Every, leastEvery, mostEvery) || !within(c.Robust, 1, mostRobust) {
		return api.ErrForm
	}
	if !within(c.Member, 1, mostMember) || !within(c.Last, 1, mostLast) {
		return api.ErrForm
	}
	if !within(c.Age, 1, mostAge) || !within(c.Room, 1, mostRoom) {
		return api.ErrForm
	}
	return api.OK
}

// portsMayBe tells whether VLANs and a tree may be made of a config's ports.
func portsMayBe(c Config) bool {
	if vlan.Check(c.Ports) != api.OK || len(c.Costs) != len(c.Ports) {
		return false
	}
	_, e := rstp.New(c.Id, c.Costs)
	return e == api.OK && len(vlansOf(c.Ports)) <= mostVlans
}

// mayAsk tells whether a switch may have that address, or none.
func mayAsk(self api.Addr, size int) bool {
	return self == "" || len(self) == size && !isNought(self)
}

// isNought tells whether an address is none: all bytes 0.
func isNought(a api.Addr) bool { return strings.Trim(string(a), "\x00") == "" }

func within(n, least, most int) bool { return least <= n && n <= most }

// vlansOf are those that ports are members of, rising. A port's Default is one of its others.
func vlansOf(ports []api.Port) []int {
	var l []int
	for _, p := range ports {
		l = slices.Concat(l, p.Tagged, p.Plain)
	}
	slices.Sort(l)
	return slices.Compact(l)
}

// own is a config that shares nothing with what was handed in. Costs are the tree's alone.
func own(c Config) Config {
	c.Costs = nil
	c.Ports = slices.Clone(c.Ports)
	for i, p := range c.Ports {
		c.Ports[i].Tagged, c.Ports[i].Plain = slices.Clone(p.Tagged), slices.Clone(p.Plain)
	}
	c.Self4, c.Self6 = copied(c.Self4), copied(c.Self6)
	return c
}

func copied(a api.Addr) api.Addr { return api.Addr(strings.Clone(string(a))) }
