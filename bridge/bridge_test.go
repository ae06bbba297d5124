package bridge_test

import (
	"slices"
	"testing"
	"unsafe"

	"siphon/api"
	"siphon/bpdu"
	"siphon/bridge"
	"siphon/ether"
	"siphon/igmp"
	"siphon/ipv4"
	"siphon/ipv6"
	"siphon/mld"
)

const lastTime = 1 << 40

// Stations; all and some are addresses of many.
const (
	anna = api.Mac("\x02\x00\x00\x00\x00\x0a")
	bert = api.Mac("\x02\x00\x00\x00\x00\x0b")
	cleo = api.Mac("\x02\x00\x00\x00\x00\x0c")
	all  = api.Mac("\xff\xff\xff\xff\xff\xff")
	some = api.Mac("\x01\x00\x00\x00\x00\x0d")
)

// Addresses of both kinds: the switch's own, lower and higher ones, and groups.
const (
	self4  = api.Addr("\x0a\x00\x00\x05")
	lower4 = api.Addr("\x0a\x00\x00\x04")
	host4  = api.Addr("\x0a\x00\x00\x09")
	none4  = api.Addr("\x00\x00\x00\x00")
	group4 = api.Addr("\xe0\x01\x02\x03")
	other4 = api.Addr("\xe0\x01\x02\x04")
	local4 = api.Addr("\xe0\x00\x00\x05")
	all4   = api.Addr("\xe0\x00\x00\x01")

	self6  = api.Addr("\xfe\x80\x00\x00\x00\x00\x00\x00\x00\x00\x00\x00\x00\x00\x00\x05")
	lower6 = api.Addr("\xfe\x80\x00\x00\x00\x00\x00\x00\x00\x00\x00\x00\x00\x00\x00\x04")
	host6  = api.Addr("\xfe\x80\x00\x00\x00\x00\x00\x00\x00\x00\x00\x00\x00\x00\x00\x09")
	none6  = api.Addr("\x00\x00\x00\x00\x00\x00\x00\x00\x00\x00\x00\x00\x00\x00\x00\x00")
	group6 = api.Addr("\xff\x05\x00\x00\x00\x00\x00\x00\x00\x00\x00\x00\x01\x02\x03\x04")
	all6   = api.Addr("\xff\x02\x00\x00\x00\x00\x00\x00\x00\x00\x00\x00\x00\x00\x00\x01")
)

// config is one of so many ports, all in VLAN 10 without a tag.
func config(ports int) bridge.Config {
	c := bridge.Config{Id: 7, Self4: self4, Self6: self6, Every: 20, Robust: 2, Member: 50, Last: 3, Age: 100, Room: 50}
	for range ports {
		c.Ports = append(c.Ports, api.Port{Default: 10, Plain: []int{10}})
		c.Costs = append(c.Costs, 10)
	}
	return c
}

// silent is one that asks nobody.
func silent(ports int) bridge.Config {
	c := config(ports)
	c.Self4, c.Self6 = "", ""
	return c
}

func made(t *testing.T, c bridge.Config, now int) *bridge.Bridge {
	t.Helper()
	b, e := bridge.New(c, now)
	if b == nil || e != api.OK {
		t.Fatalf("New of %v, %d: %v, %d", c, now, b, e)
	}
	return b
}

// up is a switch from 1 on, all of whose ports come up at 1.
func up(t *testing.T, c bridge.Config) *bridge.Bridge {
	t.Helper()
	b := made(t, c, 1)
	for port := range c.Ports {
		b.Link(port, true, 1)
	}
	return b
}

// open is one whose ports forward from 31 on. With an Every of 20 it recovers till 50.
func open(t *testing.T, c bridge.Config) *bridge.Bridge {
	t.Helper()
	b := up(t, c)
	b.Tick(31)
	return b
}

// textOf is an address that lies where the bytes do.
func textOf(bytes []byte) api.Addr { return api.Addr(unsafe.String(&bytes[0], len(bytes))) }

// portsOf are those of what goes out.
func portsOf(l []api.Out) []int {
	var ports []int
	for _, o := range l {
		ports = append(ports, o.Port)
	}
	return ports
}

// goes tells that a frame must go out of just these ports, in this order, as it came.
func goes(t *testing.T, b *bridge.Bridge, port int, bytes string, now int, want ...int) {
	t.Helper()
	l := b.Take(port, bytes, now)
	if !slices.Equal(portsOf(l), want) {
		t.Errorf("Take of %x by %d at %d: %v, not %v", bytes, port, now, portsOf(l), want)
	}
	for _, o := range l {
		if o.Bytes != bytes {
			t.Errorf("Take of %x by %d at %d: %x out of %d", bytes, port, now, o.Bytes, o.Port)
		}
	}
}

// opens tells which ports must be open.
func opens(t *testing.T, b *bridge.Bridge, want ...int) {
	t.Helper()
	if l := b.Open(); !slices.Equal(l, want) {
		t.Errorf("Open: %v, not %v", l, want)
	}
}

// routers and wants tell where routers, and who wants a group, must be in VLAN 10.
func routers(t *testing.T, b *bridge.Bridge, now int, want ...int) {
	t.Helper()
	if l := b.Routers(10, now); !slices.Equal(l, want) {
		t.Errorf("Routers at %d: %v, not %v", now, l, want)
	}
}

func wants(t *testing.T, b *bridge.Bridge, g api.Addr, now int, want ...int) {
	t.Helper()
	from := host4
	if len(g) == 16 {
		from = host6
	}
	wantsFrom(t, b, g, from, now, want...)
}

func wantsFrom(t *testing.T, b *bridge.Bridge, g, s api.Addr, now int, want ...int) {
	t.Helper()
	if l := b.Wants(10, g, s, now); !slices.Equal(l, want) {
		t.Errorf("Wants of %x, %x at %d: %v, not %v", g, s, now, l, want)
	}
}

// bytesOf are those of a frame that may be.
func bytesOf(f api.Frame) string {
	s, e := ether.Encode(f)
	if e != api.OK {
		panic("no frame")
	}
	return s
}

// plain is a frame without a tag, which says nothing of groups.
func plain(dst, src api.Mac) string {
	return bytesOf(api.Frame{Dst: dst, Src: src, Type: 99, Data: "what is told"})
}

// tagged is such a frame with one.
func tagged(dst, src api.Mac, v int) string {
	return bytesOf(api.Frame{Dst: dst, Src: src, Tagged: true, Vlan: v, Prio: 5, Type: 99, Data: "what is told"})
}

// to is the station's address that goes with an address.
func to(a api.Addr) api.Mac {
	if m, e := ether.Group(a); e == api.OK {
		return m
	}
	return cleo
}

// packet4 is a frame with a packet, packet6 likewise.
func packet4(p api.V4) string {
	s, e := ipv4.Encode(p)
	if e != api.OK {
		panic("no packet")
	}
	return bytesOf(api.Frame{Dst: to(p.Dst), Src: anna, Type: 0x0800, Data: s})
}

func packet6(p api.V6) string {
	s, e := ipv6.Encode(p)
	if e != api.OK {
		panic("no packet")
	}
	return bytesOf(api.Frame{Dst: to(p.Dst), Src: anna, Type: 0x86dd, Data: s})
}

// data4 is what a group is sent, data6 likewise.
func data4(src, dst api.Addr) string {
	return packet4(api.V4{Ttl: 9, Proto: 17, Src: src, Dst: dst, Data: "some data"})
}

func data6(src, dst api.Addr) string {
	return packet6(api.V6{Hop: 9, Next: 17, Src: src, Dst: dst, Data: "some data"})
}

// igmpOf and mldOf are the bytes of messages that may be.
func igmpOf(m api.Message) string {
	s, e := igmp.Encode(m)
	if e != api.OK {
		panic("no message")
	}
	return s
}

func mldOf(src, dst api.Addr, m api.Message) string {
	s, e := mld.Encode(src, dst, m)
	if e != api.OK {
		panic("no message")
	}
	return s
}

// says4 is a message from a host to a group, says6 likewise.
func says4(src, dst api.Addr, m api.Message) string {
	return packet4(api.V4{Ttl: 1, Proto: 2, Src: src, Dst: dst, Data: igmpOf(m)})
}

func says6(src, dst api.Addr, m api.Message) string {
	return packet6(api.V6{Hop: 1, Next: 58, Src: src, Dst: dst, Alert: true, Data: mldOf(src, dst, m)})
}

// joins4 and leaves4 are the messages of a host with IGMP of version 2, joins6 and leaves6 with MLD of version 1.
func joins4(g api.Addr) string {
	return says4(host4, g, api.Message{Kind: api.Report, Version: 2, Group: g})
}

func leaves4(g api.Addr) string {
	return says4(host4, g, api.Message{Kind: api.Leave, Version: 2, Group: g})
}

func joins6(g api.Addr) string {
	return says6(host6, g, api.Message{Kind: api.Report, Version: 1, Group: g})
}

func leaves6(g api.Addr) string {
	return says6(host6, g, api.Message{Kind: api.Leave, Version: 1, Group: g})
}

// asks4 and asks6 are queries of all groups.
func asks4(src api.Addr) string {
	return says4(src, all4, api.Message{Kind: api.Query, Version: 2, Max: 100})
}

func asks6(src api.Addr) string {
	return says6(src, all6, api.Message{Kind: api.Query, Version: 1, Max: 1000})
}

// records4 is a report of version 3, records6 one of version 2.
func records4(l ...api.Record) string {
	return says4(host4, "\xe0\x00\x00\x16", api.Message{Kind: api.Report, Version: 3, Records: l})
}

func records6(l ...api.Record) string {
	return says6(host6, group6, api.Message{Kind: api.Report, Version: 2, Records: l})
}

// treeSays is a frame of the tree's, without a tag.
func treeSays(m api.Bpdu) string {
	return bytesOf(treeFrame(m))
}

func treeFrame(m api.Bpdu) api.Frame {
	s, e := bpdu.Encode(m)
	if e != api.OK {
		panic("no message")
	}
	return api.Frame{Dst: bpdu.To(), Src: anna, Type: 39, Data: s}
}

// root is a message by which a port becomes the way to bridge 1.
func root() api.Bpdu { return api.Bpdu{Vector: api.Vector{Root: 1, Bridge: 1, Port: 3}} }

// told are the tree's messages that go out at a time, by their ports, and queries the other frames.
func told(t *testing.T, b *bridge.Bridge, now int) (map[int]api.Bpdu, []api.Out) {
	t.Helper()
	messages := map[int]api.Bpdu{}
	var queries []api.Out
	for _, o := range b.Tick(now) {
		f, e := ether.Decode(o.Bytes)
		if e != api.OK {
			t.Errorf("Tick of %d: %x", now, o.Bytes)
		}
		if f.Dst != bpdu.To() {
			queries = append(queries, o)
			continue
		}
		m, e := bpdu.Decode(f.Data)
		if e != api.OK || f.Tagged {
			t.Errorf("Tick of %d: %x", now, o.Bytes)
		}
		messages[o.Port] = m
	}
	return messages, queries
}

// isRoot tells whether a switch takes itself for the root; now is even.
func isRoot(t *testing.T, b *bridge.Bridge, now int, want bool) {
	t.Helper()
	messages, _ := told(t, b, now)
	if len(messages) == 0 {
		t.Errorf("Tick of %d: no messages", now)
	}
	for port, m := range messages {
		if (m.Vector.Root == 7) != want {
			t.Errorf("Tick of %d: %v out of %d", now, m, port)
		}
	}
}
