package bridge

import (
	"cmp"

	"siphon/api"
	"siphon/ether"
	"siphon/igmp"
	"siphon/ipv4"
	"siphon/ipv6"
	"siphon/mld"
	"siphon/querier"
)

// Where queries of all groups go.
const (
	all4 = api.Addr("\xe0\x00\x00\x01")
	all6 = api.Addr("\xff\x02\x00\x00\x00\x00\x00\x00\x00\x00\x00\x00\x00\x00\x00\x01")
)

const (
	// lookHere are the options by which each router looks at a packet of IPv4.
	lookHere = "\x94\x04\x00\x00"

	// noPort is one that a frame of the switch's own came by.
	noPort = -1

	askEvery = 125 // what queries tell of it, whatever the config says
)

// How long hosts may wait with an answer, of all groups and of one, as IGMP tells it. MLD's numbers are greater.
const (
	longWait  = 100
	shortWait = 10
	mldTimes  = 10
)

// askAll asks of all groups where it is time to.
func (b *Bridge) askAll(now int) []api.Out {
	var l []api.Out
	for _, v := range b.vlans {
		for _, size := range [...]int{size4, size6} {
			if b.queriers[asker{v, size}].Tick(now) {
				l = append(l, b.ask(querier.Question{Vlan: v}, size)...)
			}
		}
	}
	return l
}

// askDue asks of single groups.
func (b *Bridge) askDue(now int) []api.Out {
	var l []api.Out
	for _, q := range b.asks.Due(now) {
		size := len(q.Group)
		if b.queriers[asker{q.Vlan, size}].Is(now) {
			l = append(l, b.ask(q, size)...)
		}
	}
	return l
}

// ask sends a query to all of its VLAN; a question without a group is one of all.
func (b *Bridge) ask(q querier.Question, size int) []api.Out {
	f := api.Frame{Src: b.address, Tagged: true, Vlan: q.Vlan}
	var to api.Addr
	if size == size4 {
		to = cmp.Or(q.Group, all4)
		f.Type, f.Data = type4, b.packet4(q, to)
	} else {
		to = cmp.Or(q.Group, all6)
		f.Type, f.Data = type6, b.packet6(q, to)
	}
	f.Dst, _ = ether.Group(to)
	return b.send(f, b.flood(q.Vlan, noPort))
}

func (b *Bridge) packet4(q querier.Question, to api.Addr) string {
	m := b.message(q)
	m.Version = 3
	said, _ := igmp.Encode(m)
	packet, _ := ipv4.Encode(api.V4{Ttl: 1, Proto: saysIgmp, Src: b.config.Self4, Dst: to, Options: lookHere, Data: said})
	return packet
}

func (b *Bridge) packet6(q querier.Question, to api.Addr) string {
	m := b.message(q)
	m.Version = 2
	m.Max *= mldTimes
	said, _ := mld.Encode(b.config.Self6, to, m)
	packet, _ := ipv6.Encode(api.V6{Hop: mldHops, Next: saysMld, Src: b.config.Self6, Dst: to, Alert: true, Data: said})
	return packet
}

// message is what queries of both kinds tell, with the wait of IGMP.
func (b *Bridge) message(q querier.Question) api.Message {
	m := api.Message{Kind: api.Query, Group: q.Group, Max: longWait, Robust: b.config.Robust, Every: askEvery, Sources: q.Sources}
	if q.Group != "" {
		m.Max = shortWait
	}
	return m
}
