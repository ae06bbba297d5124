package tree_test

import (
	"math"
	"slices"
	"testing"

	"siphon/api"
	"siphon/prio"
	"siphon/tree"
)

const (
	mostWay = 200000000

	root       = prio.Root
	designated = prio.Designated
	alternate  = prio.Alternate
)

// link is one with the parts in the order in which it joins them.
func link(a, portA, b, portB, cost int) tree.Link {
	return tree.Link{A: a, PortA: portA, B: b, PortB: portB, Cost: cost}
}

// upTo are the ids 1 to n.
func upTo(n int) []uint64 {
	var ids []uint64
	for id := range n {
		ids = append(ids, uint64(id+1))
	}
	return ids
}

// many are n links, each between ports of their own.
func many(bridges int, n int) []tree.Link {
	next := make([]int, bridges)
	var links []tree.Link
	for i := range n {
		a, b := i%bridges, (i+1+i/bridges)%bridges
		portA := next[a]
		next[a]++
		portB := next[b]
		next[b]++
		links = append(links, link(a, portA, b, portB, 1+i))
	}
	return links
}

// rests tells what Rest and Active must answer, and that what is handed in stays.
func rests(t *testing.T, ids []uint64, links []tree.Link, rest [][2]int, active ...int) {
	t.Helper()
	wasIds, wasLinks := slices.Clone(ids), slices.Clone(links)
	if e := tree.Check(ids, links); e != api.OK {
		t.Errorf("Check of %v, %v: %d", ids, links, e)
	}
	if r, e := tree.Rest(ids, links); !slices.Equal(r, rest) || e != api.OK {
		t.Errorf("Rest of %v, %v: %v, %d, not %v", ids, links, r, e, rest)
	}
	if l, e := tree.Active(ids, links); !slices.Equal(l, active) || e != api.OK {
		t.Errorf("Active of %v, %v: %v, %d, not %v", ids, links, l, e, active)
	}
	if !slices.Equal(ids, wasIds) || !slices.Equal(links, wasLinks) {
		t.Errorf("%v, %v became %v, %v", wasIds, wasLinks, ids, links)
	}
}

// may tells that Check must be OK, and the others no error.
func may(t *testing.T, ids []uint64, links []tree.Link) {
	t.Helper()
	if e := tree.Check(ids, links); e != api.OK {
		t.Errorf("Check of %v, %v: %d", ids, links, e)
	}
	if r, e := tree.Rest(ids, links); len(r) != len(links) || e != api.OK {
		t.Errorf("Rest of %v, %v: %v, %d", ids, links, r, e)
	}
	if _, e := tree.Active(ids, links); e != api.OK {
		t.Errorf("Active of %v, %v: %d", ids, links, e)
	}
}

// refuses tells that each of them must answer ErrForm, and nothing else.
func refuses(t *testing.T, ids []uint64, links []tree.Link) {
	t.Helper()
	if e := tree.Check(ids, links); e != api.ErrForm {
		t.Errorf("Check of %v, %v: %d", ids, links, e)
	}
	if r, e := tree.Rest(ids, links); len(r) != 0 || e != api.ErrForm {
		t.Errorf("Rest of %v, %v: %v, %d", ids, links, r, e)
	}
	if l, e := tree.Active(ids, links); len(l) != 0 || e != api.ErrForm {
		t.Errorf("Active of %v, %v: %v, %d", ids, links, l, e)
	}
}

// P16.1: so many bridges, no two with the same id.
func TestBridges(t *testing.T) {
	for n := 1; n <= 12; n++ {
		may(t, upTo(n), nil)
		may(t, upTo(n), []tree.Link{})
	}
	for _, n := range []int{0, 13, 14, 1000} {
		refuses(t, upTo(n), nil)
	}
	refuses(t, []uint64{}, []tree.Link{link(0, 0, 0, 1, 1)})
	may(t, []uint64{0}, nil)
	may(t, []uint64{math.MaxUint64, 0, 1 << 63, 1<<63 - 1}, nil)
	for i := range 12 {
		for k := range i {
			ids := upTo(12)
			ids[i] = ids[k]
			refuses(t, ids, nil)
		}
	}
	refuses(t, []uint64{0, 0}, nil)
}

// P16.1: so many links.
func TestLinks(t *testing.T) {
	for _, n := range []int{1, 2, 39, 40} {
		may(t, upTo(12), many(12, n))
	}
	for _, n := range []int{41, 42, 80} {
		refuses(t, upTo(12), many(12, n))
	}
	may(t, upTo(5), many(5, 40)) // all ports of all bridges
}

// P16.1: the numbers of a link, at their edges, at either end and behind other links.
func TestLinkAtTheEdges(t *testing.T) {
	part := func(is bool, change func(k *tree.Link)) {
		t.Helper()
		for n := range 4 {
			links := many(4, 4)
			change(&links[n])
			if is {
				may(t, upTo(4), links)
			} else {
				refuses(t, upTo(4), links)
			}
		}
	}
	for _, n := range []int{-1, 4, 5, 12, math.MinInt, math.MaxInt, 1 << 32} {
		part(false, func(k *tree.Link) { k.A = n })
		part(false, func(k *tree.Link) { k.B = n })
	}
	for _, n := range []int{-1, 16, 17, math.MinInt, math.MaxInt, 1 << 32} {
		part(false, func(k *tree.Link) { k.PortA = n })
		part(false, func(k *tree.Link) { k.PortB = n })
	}
	for _, n := range []int{2, 14, 15} {
		part(true, func(k *tree.Link) { k.PortA = n })
		part(true, func(k *tree.Link) { k.PortB = n })
	}
	for _, n := range []int{0, -1, mostWay + 1, math.MinInt, math.MaxInt, 1<<32 + 1} {
		part(false, func(k *tree.Link) { k.Cost = n })
	}
	for _, n := range []int{1, 2, mostWay - 1, mostWay} {
		part(true, func(k *tree.Link) { k.Cost = n })
	}
	for _, n := range []int{0, 3} {
		part(true, func(k *tree.Link) { k.A, k.PortA = n, 9 })
		part(true, func(k *tree.Link) { k.B, k.PortB = n, 9 })
	}
}

// P16.1: no port of a bridge stands twice, at whichever ends; the same number at another bridge is another port.
func TestPortsStandOnce(t *testing.T) {
	ids := upTo(3)
	for _, port := range []int{0, 1, 15} {
		refuses(t, ids, []tree.Link{link(0, port, 0, port, 1)})
		refuses(t, ids, []tree.Link{link(2, port, 2, port, 1)})
		may(t, ids, []tree.Link{link(0, port, 1, port, 1)})
		refuses(t, ids, []tree.Link{link(0, port, 1, 3, 1), link(0, port, 2, 3, 1)})
		refuses(t, ids, []tree.Link{link(1, 3, 0, port, 1), link(2, 3, 0, port, 1)})
		refuses(t, ids, []tree.Link{link(0, port, 1, 3, 1), link(2, 3, 0, port, 1)})
		refuses(t, ids, []tree.Link{link(1, 3, 0, port, 1), link(0, port, 2, 3, 1)})
		refuses(t, ids, []tree.Link{link(0, port, 1, 3, 1), link(1, 7, 2, 7, 1), link(0, 8, 2, 8, 1), link(2, 9, 0, port, 1)})
		refuses(t, ids, []tree.Link{link(0, port, 1, port, 1), link(0, port, 1, port, 1)})
		may(t, ids, []tree.Link{link(0, port, 1, port, 1), link(2, port, 1, 7, 1)})
	}
}

// P16.2: bridges without links, and one link.
func TestFewLinks(t *testing.T) {
	rests(t, []uint64{7}, nil, nil)
	rests(t, []uint64{2, 1}, nil, nil)
	for _, ports := range [][2]int{{0, 0}, {0, 15}, {15, 0}, {3, 9}} {
		rests(t, []uint64{1, 2}, []tree.Link{link(0, ports[0], 1, ports[1], 5)}, [][2]int{{designated, root}}, 0)
		rests(t, []uint64{2, 1}, []tree.Link{link(0, ports[0], 1, ports[1], 5)}, [][2]int{{root, designated}}, 0)
		rests(t, []uint64{2, 1}, []tree.Link{link(1, ports[0], 0, ports[1], 5)}, [][2]int{{designated, root}}, 0)
		rests(t, []uint64{math.MaxUint64, 1 << 63}, []tree.Link{link(0, ports[0], 1, ports[1], mostWay)}, [][2]int{{root, designated}}, 0)
		rests(t, []uint64{0, 1}, []tree.Link{link(0, ports[0], 1, ports[1], mostWay)}, [][2]int{{designated, root}}, 0)
	}
}

// P16.2, P16.3: the document's example, turned round and round.
func TestRing(t *testing.T) {
	ring := []tree.Link{link(0, 0, 1, 0, 5), link(1, 1, 2, 1, 5), link(2, 0, 0, 1, 5)}
	rests(t, []uint64{1, 2, 3}, ring, [][2]int{{2, 1}, {2, 3}, {1, 2}}, 0, 2)
	rests(t, []uint64{1, 3, 2}, ring, [][2]int{{2, 1}, {3, 2}, {1, 2}}, 0, 2)
	rests(t, []uint64{2, 1, 3}, ring, [][2]int{{1, 2}, {2, 1}, {3, 2}}, 0, 1)
	rests(t, []uint64{3, 2, 1}, ring, [][2]int{{3, 2}, {1, 2}, {2, 1}}, 1, 2)
	ring[2].Cost = 10 // both ways of the third bridge are the same long: the lesser Bridge is better
	rests(t, []uint64{1, 2, 3}, ring, [][2]int{{2, 1}, {2, 3}, {1, 2}}, 0, 2)
	ring[2].Cost = 11
	rests(t, []uint64{1, 2, 3}, ring, [][2]int{{2, 1}, {2, 1}, {3, 2}}, 0, 1)
	rests(t, []uint64{2, 1, 3}, ring, [][2]int{{1, 2}, {2, 1}, {3, 2}}, 0, 1)
}

// P16.2: costs count ahead of hops, and each bridge's way ahead of its id.
func TestCostsCount(t *testing.T) {
	// A square: 1 - 4 - 2 - 3 - 1.
	square := []tree.Link{link(0, 0, 1, 0, 1), link(1, 1, 2, 0, 1), link(2, 1, 3, 0, 1), link(3, 1, 0, 1, 1)}
	rests(t, []uint64{1, 4, 2, 3}, square, [][2]int{{2, 1}, {2, 3}, {1, 2}, {1, 2}}, 0, 2, 3)
	rests(t, []uint64{1, 3, 2, 4}, square, [][2]int{{2, 1}, {2, 1}, {3, 2}, {1, 2}}, 0, 1, 3)
	square[3].Cost = 4
	rests(t, []uint64{1, 4, 2, 3}, square, [][2]int{{2, 1}, {2, 1}, {2, 1}, {3, 2}}, 0, 1, 2)
	square[3].Cost = 3
	rests(t, []uint64{1, 4, 2, 3}, square, [][2]int{{2, 1}, {2, 1}, {2, 3}, {1, 2}}, 0, 1, 3)
	rests(t, []uint64{1, 4, 5, 3}, square, [][2]int{{2, 1}, {2, 1}, {2, 3}, {1, 2}}, 0, 1, 3)
}

// P16.2: of links side by side the way over the lesser port of the one that tells is Root; the other end's own port counts last.
func TestSideBySide(t *testing.T) {
	rests(t, []uint64{1, 2}, []tree.Link{link(0, 0, 1, 0, 5), link(0, 1, 1, 1, 5)}, [][2]int{{2, 1}, {2, 3}}, 0)
	rests(t, []uint64{2, 1}, []tree.Link{link(0, 0, 1, 0, 5), link(0, 1, 1, 1, 5)}, [][2]int{{1, 2}, {3, 2}}, 0)
	rests(t, []uint64{1, 2}, []tree.Link{link(0, 1, 1, 0, 5), link(0, 0, 1, 1, 5)}, [][2]int{{2, 3}, {2, 1}}, 1)
	rests(t, []uint64{1, 2}, []tree.Link{link(0, 0, 1, 15, 5), link(0, 15, 1, 0, 5)}, [][2]int{{2, 1}, {2, 3}}, 0)
	rests(t, []uint64{1, 2}, []tree.Link{link(0, 0, 1, 0, 6), link(0, 1, 1, 1, 5)}, [][2]int{{2, 3}, {2, 1}}, 1)
	rests(t, []uint64{1, 2}, []tree.Link{link(0, 3, 1, 1, 5), link(0, 2, 1, 2, 5), link(0, 1, 1, 3, 5)}, [][2]int{{2, 3}, {2, 3}, {2, 1}}, 2)
}

// P16.2: a bridge's link to itself: what the greater port hears is better; the ports' numbers are the link's, not their places.
func TestToItself(t *testing.T) {
	rests(t, []uint64{7}, []tree.Link{link(0, 4, 0, 2, 1)}, [][2]int{{alternate, designated}})
	rests(t, []uint64{7}, []tree.Link{link(0, 0, 0, 15, 1)}, [][2]int{{designated, alternate}})
	rests(t, []uint64{7}, []tree.Link{link(0, 9, 0, 8, 1), link(0, 3, 0, 15, 2)}, [][2]int{{alternate, designated}, {designated, alternate}})
	rests(t, []uint64{7, 3}, []tree.Link{link(0, 14, 0, 2, 1), link(1, 7, 0, 9, 1), link(1, 1, 1, 0, 1)}, [][2]int{{alternate, designated}, {designated, root}, {alternate, designated}}, 1)
}

// P16.2, P16.4: parts that do not hang together know nothing of one another: each has a root of its own.
func TestPartsApart(t *testing.T) {
	links := []tree.Link{link(0, 0, 1, 0, 5), link(2, 0, 3, 0, 5), link(3, 1, 4, 1, 5), link(4, 0, 2, 1, 5)}
	rests(t, []uint64{9, 8, 3, 5, 4, 1}, links, [][2]int{{1, 2}, {2, 1}, {3, 2}, {1, 2}}, 0, 1, 3)
	rests(t, []uint64{1, 2, 3, 4, 5, 0}, links, [][2]int{{2, 1}, {2, 1}, {2, 3}, {1, 2}}, 0, 1, 3)
}

// P16.2: news of the root goes through as many bridges as there may be.
func TestLongWay(t *testing.T) {
	var ids []uint64
	var links []tree.Link
	var rest [][2]int
	var active []int
	for i := range 12 {
		ids = append(ids, uint64(100-i))
		if i > 0 {
			links = append(links, link(i-1, 3, i, 9, mostWay))
			rest = append(rest, [2]int{root, designated})
			active = append(active, i-1)
		}
	}
	rests(t, ids, links, rest, active...)
	// Closed to a ring: the one in the middle is as far either way, and the lesser id leads it.
	links = append(links, link(11, 3, 0, 9, mostWay))
	for n := range 4 {
		rest[n] = [2]int{designated, root}
	}
	rest[4] = [2]int{designated, alternate}
	rests(t, ids, links, append(rest, [2]int{designated, root}), 0, 1, 2, 3, 5, 6, 7, 8, 9, 10, 11)
}

// P16.2: the order of links, and which of a link's ends is A, changes no role.
func TestOrderOfLinks(t *testing.T) {
	ids, links := []uint64{4, 2, 9, 1, 7, 3}, many(6, 20)
	rest, e := tree.Rest(ids, links)
	if e != api.OK {
		t.Fatalf("%d", e)
	}
	for turn := range 20 {
		var turned []tree.Link
		var want [][2]int
		for i := range links {
			n := (i*7 + turn) % 20
			k, both := links[n], rest[n]
			if (i+turn)%3 == 0 {
				k, both = link(k.B, k.PortB, k.A, k.PortA, k.Cost), [2]int{both[1], both[0]}
			}
			turned, want = append(turned, k), append(want, both)
		}
		if r, e := tree.Rest(ids, turned); !slices.Equal(r, want) || e != api.OK {
			t.Errorf("turn %d: %v, %d, not %v", turn, r, e, want)
		}
	}
}

// R5: answers are lists of their own.
func TestAnswersAreNewMemory(t *testing.T) {
	ids, links := upTo(6), many(6, 12)
	rest, _ := tree.Rest(ids, links)
	active, _ := tree.Active(ids, links)
	wantRest, wantActive := slices.Clone(rest), slices.Clone(active)
	clear(rest[:cap(rest)])
	clear(active[:cap(active)])
	rests(t, ids, links, wantRest, wantActive...)
}
