package tree_test

import (
	"cmp"
	"slices"
	"testing"

	"siphon/api"
	"siphon/prio"
	"siphon/rstp"
	"siphon/tree"
)

// random answers numbers less than n, the same ones each time.
func random(seed uint32) func(n int) int {
	return func(n int) int {
		seed = seed*1664525 + 1013904223
		return int(seed>>8) % n
	}
}

// drawn are bridges, and links between them, side by side and to themselves, too.
func drawn(draw func(n int) int) ([]uint64, []tree.Link) {
	ids := upTo(1 + draw(12))
	for i := range ids {
		k := draw(i + 1)
		ids[i], ids[k] = ids[k], ids[i]
	}
	var links []tree.Link
	has := map[[2]int]bool{}
	for range draw(41) {
		k := link(draw(len(ids)), draw(16), draw(len(ids)), draw(16), []int{1, 1, 2, 10, mostWay}[draw(5)])
		a, b := [2]int{k.A, k.PortA}, [2]int{k.B, k.PortB}
		if a != b && !has[a] && !has[b] {
			has[a], has[b] = true, true
			links = append(links, k)
		}
	}
	return ids, links
}

// together tells, of each bridge, the first one that hangs together with it by those links.
func together(bridges int, links []tree.Link, use []int) []int {
	var l []int
	for i := range bridges {
		l = append(l, i)
	}
	for range bridges {
		for _, n := range use {
			least := min(l[links[n].A], l[links[n].B])
			l[links[n].A], l[links[n].B] = least, least
		}
	}
	return l
}

// far is how far a bridge is from its root.
type far struct {
	root uint64
	cost int
}

// ways are all bridges', by going over each link again and again.
func ways(ids []uint64, links []tree.Link) []far {
	var l []far
	for _, id := range ids {
		l = append(l, far{root: id})
	}
	shorter := func(to int, f far, cost int) {
		f.cost += cost
		if f.root < l[to].root || f.root == l[to].root && f.cost < l[to].cost {
			l[to] = f
		}
	}
	for range 100 {
		for _, k := range links {
			shorter(k.A, l[k.B], k.Cost)
			shorter(k.B, l[k.A], k.Cost)
		}
	}
	return l
}

// side is an end of a link, seen from its bridge.
type side struct {
	link, end               int
	bridge, port, other, to int
	cost                    int
}

// roles are what Rest must answer, by the shortest ways alone.
func roles(ids []uint64, links []tree.Link) [][2]int {
	l, rest := ways(ids, links), make([][2]int, len(links))
	for bridge := range ids {
		var sides []side
		for n, k := range links {
			if k.A == bridge {
				sides = append(sides, side{n, 0, k.A, k.PortA, k.B, k.PortB, k.Cost})
			}
			if k.B == bridge {
				sides = append(sides, side{n, 1, k.B, k.PortB, k.A, k.PortA, k.Cost})
			}
		}
		for _, s := range sides {
			rest[s.link][s.end] = alternate
			mine, its := l[bridge], l[s.other]
			if cmp.Or(cmp.Compare(mine.cost, its.cost), cmp.Compare(ids[bridge], ids[s.other]), cmp.Compare(s.port, s.to)) <= 0 {
				rest[s.link][s.end] = designated
			}
		}
		sides = slices.DeleteFunc(sides, func(s side) bool {
			return s.other == bridge || l[s.other].cost+s.cost != l[bridge].cost
		})
		if len(sides) > 0 {
			s := slices.MinFunc(sides, func(a, b side) int {
				return cmp.Or(cmp.Compare(ids[a.other], ids[b.other]), cmp.Compare(a.to, b.to), cmp.Compare(a.port, b.port))
			})
			rest[s.link][s.end] = root
		}
	}
	return rest
}

// P16.2, P16.3, P16.4: whatever bridges and links there are, they rest where the shortest ways say; no way round, nobody cut off.
func TestRestGoesByTheShortestWays(t *testing.T) {
	draw := random(16)
	for range 600 {
		ids, links := drawn(draw)
		want := roles(ids, links)
		var active, all []int
		for n := range links {
			all = append(all, n)
			if want[n][0] != alternate && want[n][1] != alternate {
				active = append(active, n)
			}
		}
		rests(t, ids, links, want, active...)
		parts := together(len(ids), links, all)
		if l := together(len(ids), links, active); !slices.Equal(l, parts) {
			t.Errorf("%v, %v: %v hang together, not %v", ids, links, l, parts)
		}
		roots := 0
		for i, f := range ways(ids, links) {
			if f.root == ids[i] {
				roots++
			}
			for k, id := range ids {
				if parts[k] == parts[i] && f.root > id {
					t.Errorf("%v, %v: %d is the root of %d", ids, links, f.root, id)
				}
			}
		}
		if len(active)+roots != len(ids) {
			t.Errorf("%v, %v: %d active links, %d roots", ids, links, len(active), roots)
		}
	}
}

// mesh are the parts of bridges, joined by links.
type mesh struct {
	parts []*rstp.Tree
	links []tree.Link
}

// built is a mesh of which all ports of links come up at 1.
func built(t *testing.T, ids []uint64, links []tree.Link) *mesh {
	t.Helper()
	m := &mesh{links: links}
	for i, id := range ids {
		costs := slices.Repeat([]int{1}, api.MaxPorts)
		for _, k := range links {
			if k.A == i {
				costs[k.PortA] = k.Cost
			}
			if k.B == i {
				costs[k.PortB] = k.Cost
			}
		}
		d, e := rstp.New(id, costs)
		if e != api.OK {
			t.Fatalf("%v: %d", costs, e)
		}
		m.parts = append(m.parts, d)
	}
	for n := range links {
		m.turn(n, true, 1)
	}
	return m
}

// turn lets both ends of a link come up, or go down.
func (m *mesh) turn(n int, up bool, now int) {
	m.parts[m.links[n].A].Link(m.links[n].PortA, up, now)
	m.parts[m.links[n].B].Link(m.links[n].PortB, up, now)
}

// tick lets each part tell, and the others hear that.
func (m *mesh) tick(now int) {
	type told struct {
		to, port int
		bpdu     api.Bpdu
	}
	var l []told
	for i, d := range m.parts {
		for _, o := range d.Tick(now) {
			for _, k := range m.links {
				if k.A == i && k.PortA == o.Port {
					l = append(l, told{k.B, k.PortB, o.Bpdu})
				} else if k.B == i && k.PortB == o.Port {
					l = append(l, told{k.A, k.PortA, o.Bpdu})
				}
			}
		}
	}
	for _, o := range l {
		m.parts[o.to].Hear(o.port, o.bpdu, now)
	}
}

// atRest tells that the parts must have come to the rest of those links that are up.
func (m *mesh) atRest(t *testing.T, ids []uint64, up []tree.Link) {
	t.Helper()
	rest, e := tree.Rest(ids, up)
	if e != api.OK {
		t.Fatalf("%v, %v: %d", ids, up, e)
	}
	far := ways(ids, up)
	for i, d := range m.parts {
		if r := d.Root(); r.Root != far[i].root || r.Cost != far[i].cost {
			t.Errorf("%v, %v: the root of %d is %v", ids, up, i, r)
		}
	}
	for n, k := range up {
		for i, end := range [2][2]int{{k.A, k.PortA}, {k.B, k.PortB}} {
			d, port := m.parts[end[0]], end[1]
			if r := d.Role(port); r != rest[n][i] || d.Forwards(port) != (r != prio.Alternate) {
				t.Errorf("%v, %v: port %d of %d is %d, not %d; forwards %v", ids, up, port, end[0], r, rest[n][i], d.Forwards(port))
			}
		}
	}
}

// P2: parts that are left alone for 80 ticks are where Rest says; links that go down and come up, the same.
func TestPartsComeToRest(t *testing.T) {
	draw := random(80)
	for range 100 {
		ids, links := drawn(draw)
		m := built(t, ids, links)
		for now := 1; now <= 80; now++ {
			m.tick(now)
		}
		m.atRest(t, ids, links)
		if len(links) == 0 {
			continue
		}
		cut := draw(len(links))
		m.turn(cut, false, 81)
		for now := 81; now <= 400; now++ {
			m.tick(now)
		}
		m.atRest(t, ids, slices.Delete(slices.Clone(links), cut, cut+1))
		m.turn(cut, true, 401)
		for now := 401; now <= 500; now++ {
			m.tick(now)
		}
		m.atRest(t, ids, links)
	}
}
