package bridge

import (
	"slices"

	"siphon/api"
	"siphon/ether"
	"siphon/forward"
	"siphon/querier"
	"siphon/table"
	"siphon/vlan"
)

// passage is a frame inside its VLAN, on its way through a switch.
type passage struct {
	*Bridge
	api.Frame
	port int // by which it came
	now  int
}

// through tells where it goes.
func (p passage) through() []api.Out {
	if p.tree.Learns(p.port) {
		p.stations.Learn(p.Vlan, p.Src, p.port, p.now)
	}
	if !p.tree.Forwards(p.port) {
		return nil
	}
	switch r := read(p.Frame).(type) {
	case query:
		return p.hearQuery(r)
	case report:
		return p.hearReport(r)
	case data:
		return p.carry(r)
	}
	return p.pass()
}

// hearQuery notes who asks: where an address is told, one that is a router's.
func (p passage) hearQuery(q query) []api.Out {
	if !isNought(q.from) {
		p.routers.Seen(p.Vlan, p.port, p.now)
		p.queriers[asker{p.Vlan, len(q.from)}].Hear(q.from, p.now)
	}
	return p.send(p.Frame, p.others())
}

// hearReport notes what is wanted. Other hosts are not told: they might think that it has been said for them, too.
func (p passage) hearReport(r report) []api.Out {
	for _, record := range r {
		if !forward.Local(record.Group) {
			p.note(record)
		}
	}
	return p.send(p.Frame, common(p.others(), p.Routers(p.Vlan, p.now)))
}

// note keeps what a record says, and what is to be asked for it.
func (p passage) note(r api.Record) {
	asked, e := p.groups.Report(p.Vlan, p.port, r, p.now)
	if e == api.OK && p.queriers[asker{p.Vlan, len(r.Group)}].Is(p.now) {
		if asked.Group {
			p.asks.Add(querier.Question{Vlan: p.Vlan, Group: r.Group}, p.now)
		}
		if len(asked.Sources) > 0 {
			p.asks.Add(querier.Question{Vlan: p.Vlan, Group: r.Group, Sources: asked.Sources}, p.now)
		}
	}
	if p.config.Fast && r.Kind == api.ToIn && len(r.Sources) == 0 {
		p.groups.Remove(table.Key{Vlan: p.Vlan, Group: r.Group, Port: p.port})
	}
}

// carry lets a group's frame through.
func (p passage) carry(d data) []api.Out {
	return p.send(p.Frame, forward.Decide(forward.Case{
		Port:     p.port,
		Members:  vlan.Members(p.config.Ports, p.Vlan),
		Open:     p.Open(),
		Routers:  p.Routers(p.Vlan, p.now),
		Wants:    p.Wants(p.Vlan, d.to, d.from, p.now),
		Local:    forward.Local(d.to),
		Over:     p.groups.Over(p.Vlan, p.now),
		Recovers: p.recovers(p.now),
		Known:    p.groups.Known(p.Vlan, d.to, p.now),
		Flood:    p.config.Flood,
	}))
}

// pass lets through what is no group's: to its station, if it is known where that is.
func (p passage) pass() []api.Out {
	to := p.others()
	if !ether.Many(p.Dst) {
		if port, known := p.stations.Look(p.Vlan, p.Dst, p.now); known {
			to = common(to, []int{port})
		}
	}
	return p.send(p.Frame, to)
}

// others are the ports that the frame may go to.
func (p passage) others() []int { return p.flood(p.Vlan, p.port) }

// common are those of a list that stand in another one, too.
func common(l, m []int) []int {
	var both []int
	for _, n := range l {
		if slices.Contains(m, n) {
			both = append(both, n)
		}
	}
	return both
}
