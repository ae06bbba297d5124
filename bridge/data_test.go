package bridge_test

import (
	"strings"
	"testing"

	"siphon/api"
	"siphon/bridge"
)

// kind is one of the two kinds of addresses: groups, a host, and what may be said.
type kind struct {
	name                      string
	group, other, local, host api.Addr
	data                      func(src, dst api.Addr) string
	joins, leaves             func(g api.Addr) string
	asks                      func(src api.Addr) string
}

func kinds() []kind {
	return []kind{
		{"4", group4, other4, local4, host4, data4, joins4, leaves4, asks4},
		{"6", group6, "\xff\x05\x00\x00\x00\x00\x00\x00\x00\x00\x00\x00\x01\x02\x03\x05", all6, host6, data6, joins6, leaves6, asks6},
	}
}

// flooding is a switch that floods what is not known.
func flooding(ports int) bridge.Config {
	c := silent(ports)
	c.Flood = true
	return c
}

// P23.4: where a group is not known, its data goes to routers alone, or to all, as Flood says.
func TestDataOfNoKnownGroup(t *testing.T) {
	for _, k := range kinds() {
		b := open(t, silent(4))
		goes(t, b, 0, k.data(k.host, k.group), 60)
		b.Take(2, k.asks(k.host), 60)
		goes(t, b, 0, k.data(k.host, k.group), 60, 2)
		goes(t, b, 2, k.data(k.host, k.group), 60)
		b = open(t, flooding(4))
		goes(t, b, 0, k.data(k.host, k.group), 60, 1, 2, 3)
		b.Take(2, k.asks(k.host), 60)
		goes(t, b, 0, k.data(k.host, k.group), 60, 1, 2, 3)
	}
}

// P23.4: where it is known, to those who want it, and to routers, whatever Flood says.
func TestDataOfAKnownGroup(t *testing.T) {
	for _, k := range kinds() {
		for _, c := range []bridge.Config{silent(4), flooding(4)} {
			b := open(t, c)
			b.Take(1, k.joins(k.group), 60)
			goes(t, b, 0, k.data(k.host, k.group), 60, 1)
			b.Take(2, k.asks(k.host), 60)
			goes(t, b, 0, k.data(k.host, k.group), 60, 1, 2)
			goes(t, b, 1, k.data(k.host, k.group), 60, 2)
			goes(t, b, 2, k.data(k.host, k.group), 60, 1)
			b.Take(3, k.joins(k.group), 60)
			goes(t, b, 0, k.data(k.host, k.group), 60, 1, 2, 3)
		}
	}
}

// P23.4: what is known and what is wanted goes by the group, by its VLAN and by the time.
func TestDataOfAnotherGroup(t *testing.T) {
	for _, k := range kinds() {
		b := open(t, flooding(4))
		b.Take(1, k.joins(k.group), 60)
		goes(t, b, 0, k.data(k.host, k.other), 60, 1, 2, 3)
		goes(t, b, 0, k.data(k.host, k.group), 109, 1)
		goes(t, b, 0, k.data(k.host, k.group), 110, 1, 2, 3)
	}
}

// P23.4: a source is let through where it is wanted; where all others are, the group is still known.
func TestDataOfSources(t *testing.T) {
	b := open(t, flooding(4))
	b.Take(1, records4(api.Record{Kind: api.IsIn, Group: group4, Sources: []api.Addr{host4}}), 60)
	b.Take(2, records4(api.Record{Kind: api.IsEx, Group: group4, Sources: []api.Addr{host4}}), 60)
	goes(t, b, 0, data4(host4, group4), 60, 1)
	goes(t, b, 0, data4(lower4, group4), 60, 2)
	b.Take(1, records6(api.Record{Kind: api.IsIn, Group: group6, Sources: []api.Addr{host6}}), 60)
	goes(t, b, 0, data6(host6, group6), 60, 1)
	goes(t, b, 0, data6(lower6, group6), 60)
}

// P23.4: what is local goes to all.
func TestDataOfLocalGroups(t *testing.T) {
	for _, k := range kinds() {
		b := open(t, silent(4))
		b.Take(1, k.joins(k.local), 60)
		goes(t, b, 0, k.data(k.host, k.local), 60, 1, 2, 3)
		goes(t, b, 2, k.data(k.host, k.local), 60, 0, 1, 3)
	}
}

// P23.4: where there is too much to know of a VLAN, it is flooded for Member from then on, and no other one.
func TestDataWhereATableIsFull(t *testing.T) {
	for _, k := range kinds() {
		c := silent(4)
		c.Room = 1
		c.Ports[3] = api.Port{Default: 20, Plain: []int{20}}
		c.Ports[0].Tagged = []int{20}
		b := open(t, c)
		b.Take(1, k.joins(k.group), 60)
		goes(t, b, 0, k.data(k.host, k.group), 60, 1)
		b.Take(1, k.joins(k.other), 61)
		goes(t, b, 0, k.data(k.host, k.group), 61, 1, 2)
		goes(t, b, 0, k.data(k.host, k.other), 109, 1, 2)
		goes(t, b, 3, k.data(k.host, k.other), 109)
		goes(t, b, 0, k.data(k.host, k.group), 110, 1, 2)
		goes(t, b, 0, k.data(k.host, k.group), 111)
		// What is kept is reported again, though it is full.
		b.Take(2, k.joins(k.group), 109)
		b.Take(1, k.joins(k.group), 109)
		wants(t, b, k.group, 109, 1)
	}
}

// P23.4: till Every behind the tree's change all is flooded.
func TestDataWhileItRecovers(t *testing.T) {
	for _, k := range kinds() {
		b := open(t, silent(4))
		b.Take(1, k.joins(k.group), 31)
		for now := 31; now < 51; now++ {
			goes(t, b, 0, k.data(k.host, k.group), now, 1, 2, 3)
		}
		goes(t, b, 0, k.data(k.host, k.group), 51, 1)
		// Also where the change lies ahead.
		goes(t, b, 0, k.data(k.host, k.group), 20, 1, 2, 3)
		goes(t, b, 0, k.data(k.host, k.group), 1, 1, 2, 3)
		news := root()
		news.Change = true
		b.Take(3, treeSays(news), 70)
		b.Take(1, k.joins(k.group), 70)
		goes(t, b, 0, k.data(k.host, k.group), 89, 1, 2, 3)
		goes(t, b, 0, k.data(k.host, k.group), 90, 1)
	}
}

// P23.4: it recovers for as long as the config's Every says.
func TestHowLongItRecovers(t *testing.T) {
	for _, every := range []int{4, 1000} {
		c := silent(4)
		c.Every = every
		b := open(t, c)
		goes(t, b, 0, data4(host4, group4), 30+every, 1, 2, 3)
		goes(t, b, 0, data4(host4, group4), 31+every)
	}
}

// P23.4: data goes out of no port that is not open, nor of one of another VLAN, whoever wants it there.
func TestDataWithinFlood(t *testing.T) {
	for _, k := range kinds() {
		c := silent(5)
		c.Ports[3] = api.Port{Default: 20, Plain: []int{20}}
		b := open(t, c)
		for port := range 5 {
			b.Take(port, k.joins(k.group), 60)
			b.Take(port, k.asks(k.host), 60)
		}
		m := root()
		b.Take(0, treeSays(m), 60)
		m.Vector.Port = 9
		b.Take(4, treeSays(m), 60)
		opens(t, b, 0, 1, 2, 3)
		for _, g := range []api.Addr{k.group, k.local} {
			goes(t, b, 0, k.data(k.host, g), 60, 1, 2)
			goes(t, b, 3, k.data(k.host, g), 60)
			goes(t, b, 4, k.data(k.host, g), 60)
		}
	}
}

// P23.4: data goes out with a tag where its VLAN has one, and keeps its Prio there.
func TestDataWithATag(t *testing.T) {
	b := mixed(t)
	inside := api.Frame{Dst: to(group4), Src: anna, Tagged: true, Vlan: 20, Prio: 6, Type: 0x0800, Data: joins4(group4)[14:]}
	comes(t, b, 1, bytesOf(inside))
	comes(t, b, 2, joins4(group4))
	inside.Data = data4(host4, group4)[14:]
	comes(t, b, 0, bytesOf(inside), api.Out{Port: 1, Bytes: bytesOf(inside)}, api.Out{Port: 2, Bytes: data4(host4, group4)})
	comes(t, b, 2, data4(host4, group4), api.Out{Port: 1, Bytes: strings.Replace(bytesOf(inside), "\x81\x00\xc0\x14", "\x81\x00\x00\x14", 1)})
	comes(t, b, 0, data4(host4, group4))
}

// P23.3: the address of the station counts for nothing, where a packet goes to a group.
func TestDataToOneStation(t *testing.T) {
	for _, k := range kinds() {
		b := open(t, silent(4))
		b.Take(2, plain(all, bert), 60)
		b.Take(1, k.joins(k.group), 60)
		s := string(bert) + k.data(k.host, k.group)[6:]
		goes(t, b, 0, s, 60, 1)
		s = string(bert) + k.joins(k.other)[6:]
		goes(t, b, 0, s, 60)
		wants(t, b, k.other, 60, 0)
	}
}

// P23.3: a packet that goes to no group is a frame as any other, to many or to one; so is one that cannot be read, or has another Type.
func TestNoData(t *testing.T) {
	for _, k := range kinds() {
		b := open(t, silent(4))
		b.Take(1, k.joins(k.group), 60)
		b.Take(2, plain(all, cleo), 60)
		goes(t, b, 0, k.data(k.host, k.host), 60, 2)
		goes(t, b, 0, string(all)+k.data(k.host, k.host)[6:], 60, 1, 2, 3)
		s := k.data(k.host, k.group)
		goes(t, b, 0, s[:14+19], 60, 1, 2, 3)
		goes(t, b, 0, s[:14], 60, 1, 2, 3)
		goes(t, b, 0, s[:14]+"\x55"+s[15:], 60, 1, 2, 3)
		goes(t, b, 0, s[:12]+"\x08\x06"+s[14:], 60, 1, 2, 3)
		goes(t, b, 0, string(cleo)+s[6:14]+"\x55"+s[15:], 60, 2)
	}
	// Each kind has its own Type.
	b := open(t, silent(4))
	b.Take(1, joins4(group4), 60)
	b.Take(1, joins6(group6), 60)
	s, l := data4(host4, group4), data6(host6, group6)
	goes(t, b, 0, s[:12]+"\x86\xdd"+s[14:], 60, 1, 2, 3)
	goes(t, b, 0, l[:12]+"\x08\x00"+l[14:], 60, 1, 2, 3)
}

// P23.3, P1: a message that cannot be read is data, and changes no group.
func TestMessagesThatCannotBeRead(t *testing.T) {
	b := open(t, silent(4))
	b.Take(1, joins4(group4), 60)
	good := igmpOf(api.Message{Kind: api.Leave, Version: 2, Group: group4})
	for _, data := range []string{"", good[:7], good + "\x00\x01", good[:2] + "\x00\x00" + good[4:], "\x12" + good[1:], "\x16" + good[1:], "\x11" + good[1:]} {
		goes(t, b, 0, packet4(api.V4{Ttl: 1, Proto: 2, Src: host4, Dst: group4, Data: data}), 60, 1)
		goes(t, b, 1, packet4(api.V4{Ttl: 1, Proto: 2, Src: host4, Dst: group4, Data: data}), 60)
		goes(t, b, 0, packet4(api.V4{Ttl: 1, Proto: 2, Src: host4, Dst: local4, Data: data}), 60, 1, 2, 3)
	}
	wants(t, b, group4, 60, 1)
	routers(t, b, 60)
}

func TestMessagesOf6ThatCannotBeRead(t *testing.T) {
	b := open(t, silent(4))
	b.Take(1, joins6(group6), 60)
	good := mldOf(host6, group6, api.Message{Kind: api.Report, Version: 1, Group: group6})
	for _, data := range []string{"", good[:7], good[:23], good + "\x00\x01", good[:2] + "\x00\x00" + good[4:], "\x84" + good[1:], "\x82" + good[1:]} {
		goes(t, b, 2, packet6(api.V6{Hop: 1, Next: 58, Src: host6, Dst: group6, Alert: true, Data: data}), 60, 1)
	}
	wants(t, b, group6, 60, 1)
	routers(t, b, 60)
}

// P23.3: a message has its own Proto; it goes to a group. (Of IGMP Ttl and Options are free.)
func TestWhatIsAMessage(t *testing.T) {
	report := igmpOf(api.Message{Kind: api.Report, Version: 2, Group: group4})
	for _, p := range []api.V4{{Proto: 2}, {Proto: 2, Ttl: 255}, {Proto: 2, Ttl: 1, Options: "\x94\x04\x00\x00"}, {Proto: 2, Options: "\x94\x01\x00\x00"}} {
		b := open(t, silent(4))
		p.Src, p.Dst, p.Data = host4, group4, report
		goes(t, b, 2, packet4(p), 60)
		wants(t, b, group4, 60, 2)
	}
	for _, p := range []api.V4{{Proto: 1, Dst: group4}, {Proto: 17, Dst: group4}, {Proto: 58, Dst: group4}, {Proto: 2, Dst: host4}, {Proto: 2, Dst: "\xf0\x00\x00\x00"}} {
		b := open(t, silent(4))
		p.Src, p.Data = host4, report
		b.Take(2, packet4(p), 60)
		wants(t, b, group4, 60)
	}
}

// P23.3: of MLD it has its Next, a Hop of 1, and asks each router to look.
func TestWhatIsAMessageOf6(t *testing.T) {
	report := mldOf(host6, group6, api.Message{Kind: api.Report, Version: 1, Group: group6})
	for _, x := range []struct {
		packet api.V6
		is     bool
	}{
		{api.V6{Hop: 1, Next: 58, Alert: true}, true},
		{api.V6{Hop: 1, Next: 58}, false},
		{api.V6{Hop: 0, Next: 58, Alert: true}, false},
		{api.V6{Hop: 2, Next: 58, Alert: true}, false},
		{api.V6{Hop: 255, Next: 58, Alert: true}, false},
		{api.V6{Hop: 1, Next: 2, Alert: true}, false},
		{api.V6{Hop: 1, Next: 17, Alert: true}, false},
	} {
		b := open(t, silent(4))
		b.Take(1, asks6(host6), 60)
		b.Take(3, joins6(group6), 60)
		x.packet.Src, x.packet.Dst, x.packet.Data = host6, group6, report
		if x.is {
			goes(t, b, 2, packet6(x.packet), 60, 1)
			wants(t, b, group6, 60, 2, 3)
		} else {
			goes(t, b, 2, packet6(x.packet), 60, 1, 3)
			wants(t, b, group6, 60, 3)
		}
	}
	// To no group.
	b := open(t, silent(4))
	b.Take(2, packet6(api.V6{Hop: 1, Next: 58, Src: host6, Dst: host6, Alert: true, Data: mldOf(host6, host6, api.Message{Kind: api.Report, Version: 1, Group: group6})}), 60)
	wants(t, b, group6, 60)
	// Whose sum is another one's.
	b.Take(2, packet6(api.V6{Hop: 1, Next: 58, Src: lower6, Dst: group6, Alert: true, Data: report}), 60)
	wants(t, b, group6, 60)
}
