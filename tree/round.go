package tree

import (
	"siphon/api"
	"siphon/prio"
)

// mesh is bridges and links, on their way to rest.
type mesh struct {
	ids   []uint64
	links []Link
	at    [][]end // those at each bridge, in the order of their ports
	best  []api.Vector
}

// lay is a mesh in which nobody has heard anything.
func lay(ids []uint64, links []Link) *mesh {
	m := &mesh{ids: ids, links: links, at: make([][]end, len(ids))}
	for _, id := range ids {
		m.best = append(m.best, prio.Own(id))
	}
	for _, e := range allEnds(links) {
		m.at[e.bridge] = append(m.at[e.bridge], e)
	}
	return m
}

// goRound lets all tell once, at the same time: what one hears in a round, it tells in the next one alone.
func (m *mesh) goRound() {
	var next []api.Vector
	for bridge, id := range m.ids {
		_, v := prio.Best(id, m.heard(bridge))
		next = append(next, v)
	}
	m.best = next
}

// heard is what a bridge's ends hear. A port without an end has its place, too: prio goes by places as the ports' numbers.
func (m *mesh) heard(bridge int) []prio.Heard {
	var l []prio.Heard
	for _, e := range m.at[bridge] {
		for len(l) < e.port {
			l = append(l, prio.Heard{})
		}
		l = append(l, prio.Heard{Is: true, Vector: m.told(e), Cost: m.links[e.link].Cost})
	}
	return l
}

// told is what comes to an end from the other one.
func (m *mesh) told(e end) api.Vector {
	other := endsOf(e.link, m.links[e.link])[1-e.side]
	best := m.best[other.bridge]
	return api.Vector{Root: best.Root, Cost: best.Cost, Bridge: m.ids[other.bridge], Port: other.port}
}
