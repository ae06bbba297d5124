package prio_test

import (
	"math"
	"slices"
	"testing"

	"siphon/api"
	"siphon/prio"
)

const (
	mostWay  = 200000000
	mostCost = 1<<32 - 1
)

// at is a vector of these parts.
func at(root uint64, cost int, bridge uint64, port int) api.Vector {
	return api.Vector{Root: root, Cost: cost, Bridge: bridge, Port: port}
}

// over is what was heard over a way of that cost.
func over(v api.Vector, cost int) prio.Heard {
	return prio.Heard{Is: true, Vector: v, Cost: cost}
}

// ordered tells that a must be better than b.
func ordered(t *testing.T, a, b api.Vector) {
	t.Helper()
	if n, m := prio.Compare(a, b), prio.Compare(b, a); n != -1 || m != 1 {
		t.Errorf("%v, %v: %d, %d", a, b, n, m)
	}
}

// same tells that a and b must be none better.
func same(t *testing.T, a, b api.Vector) {
	t.Helper()
	if n, m := prio.Compare(a, b), prio.Compare(b, a); n != 0 || m != 0 {
		t.Errorf("%v, %v: %d, %d", a, b, n, m)
	}
}

// P14.1: vectors that differ in one part alone, in each of them.
func TestCompareOfOnePart(t *testing.T) {
	for _, v := range []api.Vector{at(0, 0, 0, 0), at(5, 6, 7, 8), at(1<<63, mostCost, 1<<63, 15), at(3, -4, 3, -4)} {
		same(t, v, v)
		for _, part := range []func(v *api.Vector){
			func(v *api.Vector) { v.Root++ },
			func(v *api.Vector) { v.Cost++ },
			func(v *api.Vector) { v.Bridge++ },
			func(v *api.Vector) { v.Port++ },
			func(v *api.Vector) { v.Root = math.MaxUint64 },
			func(v *api.Vector) { v.Cost = math.MaxInt },
			func(v *api.Vector) { v.Bridge = math.MaxUint64 },
			func(v *api.Vector) { v.Port = math.MaxInt },
		} {
			w := v
			part(&w)
			ordered(t, v, w)
			same(t, w, w)
		}
		for _, part := range []func(v *api.Vector){
			func(v *api.Vector) { v.Cost = math.MinInt },
			func(v *api.Vector) { v.Port = math.MinInt },
		} {
			w := v
			part(&w)
			ordered(t, w, v)
		}
	}
}

// P14.1: what stands ahead counts first, whatever stands behind it.
func TestCompareGoesByTheFirst(t *testing.T) {
	for _, pair := range [][2]api.Vector{
		{at(1, 9, 9, 9), at(2, 0, 0, 0)},
		{at(0, mostCost, math.MaxUint64, 15), at(1, 0, 0, 0)},
		{at(1<<63-1, 9, 9, 9), at(1<<63, 1, 1, 1)},
		{at(math.MaxUint64-1, 9, 9, 9), at(math.MaxUint64, 1, 1, 1)},
		{at(1, 0, 9, 9), at(1, 1, 0, 0)},
		{at(1, -1, 9, 9), at(1, 0, 0, 0)},
		{at(1, mostCost-1, 9, 9), at(1, mostCost, 0, 0)},
		{at(1, 1, 1, 9), at(1, 1, 2, 0)},
		{at(1, 1, 1<<63-1, 9), at(1, 1, 1<<63, 0)},
		{at(1, 1, 1, 2), at(1, 1, 1, 3)},
		{at(1, 1, 1, -1), at(1, 1, 1, 0)},
		{at(1, 1, 1, 9), at(1, 1, 1, 10)},
		{at(1, math.MinInt, 1, 0), at(1, math.MaxInt, 1, 0)},
		{at(1, 1, 1, math.MinInt), at(1, 1, 1, math.MaxInt)},
	} {
		ordered(t, pair[0], pair[1])
	}
}

// P14.5: Compare is an order of all vectors, in which they stand by Root, Cost, Bridge and Port.
func TestCompareIsAnOrder(t *testing.T) {
	var l []api.Vector
	for _, root := range []uint64{0, 1, 1 << 63, math.MaxUint64} {
		for _, cost := range []int{math.MinInt, -1, 0, 7, mostCost, math.MaxInt} {
			for _, bridge := range []uint64{0, 2, 1 << 63, math.MaxUint64} {
				for _, port := range []int{math.MinInt, -1, 0, 3, 15, math.MaxInt} {
					l = append(l, at(root, cost, bridge, port))
				}
			}
		}
	}
	for i, v := range l {
		for k, w := range l {
			want := 0
			if i < k {
				want = -1
			} else if i > k {
				want = 1
			}
			if n := prio.Compare(v, w); n != want {
				t.Fatalf("%v, %v: %d, not %d", v, w, n, want)
			}
		}
	}
}

// P14.1: what a bridge is alone.
func TestOwn(t *testing.T) {
	for _, bridge := range []uint64{0, 1, 5, 1 << 63, math.MaxUint64} {
		if v := prio.Own(bridge); v != at(bridge, 0, bridge, 0) {
			t.Errorf("%d: %v", bridge, v)
		}
	}
}

// P14.2: costs are added, up to the most; all else stays.
func TestThrough(t *testing.T) {
	for _, one := range []struct{ cost, way, want int }{
		{0, 1, 1},
		{0, 10, 10},
		{1, 1, 2},
		{20, 30, 50},
		{0, mostWay, mostWay},
		{mostWay, mostWay, 2 * mostWay},
		{1<<31 - 1, 1, 1 << 31},
		{1 << 31, mostWay, 1<<31 + mostWay},
		{mostCost - 2, 1, mostCost - 1},
		{mostCost - 1, 1, mostCost},
		{mostCost - 1, 2, mostCost},
		{mostCost - 5, 10, mostCost},
		{mostCost - mostWay - 1, mostWay, mostCost - 1},
		{mostCost - mostWay, mostWay, mostCost},
		{mostCost - mostWay + 1, mostWay, mostCost},
		{mostCost, 1, mostCost},
		{mostCost, mostWay, mostCost},
	} {
		for _, v := range []api.Vector{at(0, one.cost, 0, 0), at(1, one.cost, 2, 3), at(math.MaxUint64, one.cost, 1<<63, -7), at(9, one.cost, 1, math.MaxInt)} {
			want := at(v.Root, one.want, v.Bridge, v.Port)
			if w, e := prio.Through(v, one.way); w != want || e != api.OK {
				t.Errorf("%v, %d: %v, %d", v, one.way, w, e)
			}
		}
	}
}

// P14.2, R3: costs beyond their edges.
func TestThroughRefuses(t *testing.T) {
	refuses := func(cost, way int) {
		t.Helper()
		if v, e := prio.Through(at(1, cost, 2, 3), way); v != (api.Vector{}) || e != api.ErrArg {
			t.Errorf("%d, %d: %v, %d", cost, way, v, e)
		}
	}
	for _, way := range []int{0, -1, mostWay + 1, math.MinInt, math.MaxInt, 1<<32 + 1} {
		for _, cost := range []int{0, 7, mostCost, -1, mostCost + 1} {
			refuses(cost, way)
		}
	}
	for _, cost := range []int{-1, mostCost + 1, math.MinInt, math.MaxInt} {
		for _, way := range []int{1, 7, mostWay, 0, mostWay + 1} {
			refuses(cost, way)
		}
	}
}

// tells tells what Best and Roles must answer.
func tells(t *testing.T, bridge uint64, l []prio.Heard, port int, best api.Vector, roles ...int) {
	t.Helper()
	was := slices.Clone(l)
	if p, v := prio.Best(bridge, l); p != port || v != best {
		t.Errorf("Best of %d, %v: %d, %v, not %d, %v", bridge, shown(l), p, v, port, best)
	}
	if r := prio.Roles(bridge, l); !slices.Equal(r, roles) {
		t.Errorf("Roles of %d, %v: %v, not %v", bridge, shown(l), shown(r), shown(roles))
	}
	if !slices.Equal(l, was) {
		t.Errorf("%v became %v", shown(was), shown(l))
	}
}

// shown is so much of a list as can be read.
func shown[T any](l []T) []T { return l[:min(len(l), 20)] }

const (
	root       = prio.Root
	designated = prio.Designated
	alternate  = prio.Alternate
)

// P14.4: the roles' numbers.
func TestRolesNumbers(t *testing.T) {
	if prio.None != 0 || prio.Root != 1 || prio.Designated != 2 || prio.Alternate != 3 {
		t.Error("they are 0 to 3")
	}
}

// P14.3, P14.4: the document's example.
func TestTheDocumentsExample(t *testing.T) {
	tells(t, 5, []prio.Heard{over(at(1, 0, 1, 2), 10)}, 0, at(1, 10, 1, 2), root)
}

// P14.3, P14.4: no port, and ports that have heard nothing, whatever else stands there.
func TestNothingHeard(t *testing.T) {
	for _, bridge := range []uint64{0, 5, math.MaxUint64} {
		own := at(bridge, 0, bridge, 0)
		tells(t, bridge, nil, -1, own)
		tells(t, bridge, []prio.Heard{}, -1, own)
		tells(t, bridge, []prio.Heard{{}}, -1, own, designated)
		tells(t, bridge, []prio.Heard{{}, {Cost: 10}, {}}, -1, own, designated, designated, designated)
		tells(t, bridge, []prio.Heard{{Vector: at(0, 0, 0, 0), Cost: 10}, {Vector: at(0, 0, 3, 0), Cost: 1}}, -1, own, designated, designated)
	}
}

// P14.3, P14.4: what is no better than the bridge itself leads nowhere.
func TestWorseThanOwn(t *testing.T) {
	own := at(5, 0, 5, 0)
	tells(t, 5, []prio.Heard{over(at(9, 0, 9, 1), 10)}, -1, own, designated)
	tells(t, 5, []prio.Heard{over(at(6, 0, 1, 0), 1)}, -1, own, designated)
	tells(t, 5, []prio.Heard{over(at(5, 0, 4, 0), 1)}, -1, own, alternate) // better as heard, worse over the way
	tells(t, 5, []prio.Heard{over(at(5, 0, 6, 0), 1)}, -1, own, designated)
	tells(t, 5, []prio.Heard{over(at(5, 1, 4, 0), 1)}, -1, own, designated)
	tells(t, 0, []prio.Heard{over(at(0, 0, 1, 0), 1), over(at(0, 1, 1, 0), 1)}, -1, at(0, 0, 0, 0), designated, designated)
}

// P14.3, P14.4: what the bridge has told itself leads nowhere; of two of its own ports on a wire the lesser one tells.
func TestTheBridgeItself(t *testing.T) {
	own := at(5, 0, 5, 0)
	tells(t, 5, []prio.Heard{over(own, 10), over(own, 10)}, -1, own, designated, alternate)
	tells(t, 5, []prio.Heard{over(at(5, 0, 5, 1), 10), over(at(5, 0, 5, 0), 10)}, -1, own, designated, alternate)
	tells(t, 5, []prio.Heard{over(at(1, 0, 5, 0), 10)}, -1, own, alternate)
	tells(t, 5, []prio.Heard{over(at(1, 0, 5, 7), 10), over(at(2, 0, 6, 0), 10)}, 1, at(2, 10, 6, 0), alternate, root)
	tells(t, 5, []prio.Heard{over(at(2, 10, 5, 0), 1), over(at(2, 0, 6, 0), 10), over(at(2, 10, 5, 2), 1), over(at(2, 10, 5, 4), 1)}, 1, at(2, 10, 6, 0), designated, root, designated, designated)
}

// P14.3: the best of several, by each part of what the way comes to.
func TestBestOfSeveral(t *testing.T) {
	tells(t, 50, []prio.Heard{over(at(3, 0, 3, 1), 10), over(at(1, 90, 9, 9), 10), over(at(2, 0, 2, 1), 10)}, 1, at(1, 100, 9, 9), designated, root, designated)
	tells(t, 50, []prio.Heard{over(at(1, 0, 1, 1), 30), over(at(1, 9, 3, 1), 20), over(at(1, 20, 2, 1), 10)}, 1, at(1, 29, 3, 1), alternate, root, alternate)
	tells(t, 50, []prio.Heard{over(at(1, 20, 4, 1), 10), over(at(1, 10, 3, 1), 20), over(at(1, 0, 2, 9), 30)}, 2, at(1, 30, 2, 9), alternate, alternate, root)
	tells(t, 50, []prio.Heard{over(at(1, 20, 2, 3), 10), over(at(1, 10, 2, 1), 20), over(at(1, 0, 2, 2), 30)}, 1, at(1, 30, 2, 1), alternate, root, alternate)
	tells(t, 50, []prio.Heard{{}, over(at(90, 0, 90, 1), 10), over(at(1, 10, 2, 1), 20), {}}, 2, at(1, 30, 2, 1), designated, designated, root, designated)
}

// P14.3: of several that come to the same the least port is the one.
func TestTheSameOverSeveral(t *testing.T) {
	tells(t, 50, []prio.Heard{over(at(1, 0, 2, 3), 10), over(at(1, 0, 2, 3), 10)}, 0, at(1, 10, 2, 3), root, alternate)
	tells(t, 50, []prio.Heard{over(at(1, 5, 2, 3), 10), over(at(1, 0, 2, 3), 10), over(at(1, 2, 2, 3), 8), over(at(1, 9, 2, 3), 1)}, 1, at(1, 10, 2, 3), alternate, root, alternate, alternate)
	tells(t, 50, []prio.Heard{{}, over(at(1, mostCost, 2, 3), 9), over(at(1, mostCost-5, 2, 3), 10), over(at(1, mostCost-1, 2, 3), 1)}, 1, at(1, mostCost, 2, 3), designated, root, alternate, alternate)
	tells(t, 50, []prio.Heard{over(at(1, mostCost-1, 2, 3), 1), over(at(1, mostCost-2, 2, 3), 1)}, 1, at(1, mostCost-1, 2, 3), alternate, root)
}

// P14.3, P14.4: what Through refuses leads nowhere; a port that has heard it goes by that nevertheless.
func TestWrongCosts(t *testing.T) {
	own := at(5, 0, 5, 0)
	for _, cost := range []int{0, -1, mostWay + 1, math.MinInt, math.MaxInt} {
		tells(t, 5, []prio.Heard{over(at(1, 0, 1, 2), cost)}, -1, own, alternate)
		tells(t, 5, []prio.Heard{over(at(9, 0, 9, 2), cost)}, -1, own, designated)
		tells(t, 5, []prio.Heard{over(at(1, 0, 1, 2), cost), over(at(2, 0, 2, 0), 10)}, 1, at(2, 10, 2, 0), alternate, root)
	}
	for _, cost := range []int{-1, mostCost + 1, math.MinInt, math.MaxInt} {
		tells(t, 5, []prio.Heard{over(at(1, cost, 1, 2), 10)}, -1, own, alternate)
		tells(t, 5, []prio.Heard{over(at(9, cost, 9, 2), 10)}, -1, own, designated)
		tells(t, 5, []prio.Heard{over(at(1, cost, 1, 2), 10), over(at(2, 0, 2, 0), 10)}, 1, at(2, 10, 2, 0), alternate, root)
	}
	for _, one := range []struct{ cost, way, want int }{{0, 1, 1}, {0, mostWay, mostWay}, {mostCost, 1, mostCost}, {mostCost, mostWay, mostCost}} {
		tells(t, 5, []prio.Heard{over(at(1, one.cost, 1, 2), one.way)}, 0, at(1, one.want, 1, 2), root)
	}
}

// P14.4: what a port tells, against what it has heard, by each part.
func TestDesignatedOrAlternate(t *testing.T) {
	to := over(at(2, 0, 3, 0), 10) // port 0 is Root, port 1 tells {2, 10, 50, 1}
	for _, one := range []struct {
		heard api.Vector
		want  int
	}{
		{at(2, 10, 50, 1), designated},
		{at(2, 10, 50, 2), designated},
		{at(2, 10, 50, 0), alternate},
		{at(2, 10, 51, 0), designated},
		{at(2, 10, 49, 9), alternate},
		{at(2, 11, 1, 0), designated},
		{at(2, 9, 99, 9), alternate},
		{at(3, 0, 1, 0), designated},
	} {
		tells(t, 50, []prio.Heard{to, over(one.heard, mostWay)}, 0, at(2, 10, 3, 0), root, one.want)
		tells(t, 50, []prio.Heard{to, over(one.heard, 10000)}, 0, at(2, 10, 3, 0), root, one.want)
	}
	// A port's number is its place, whichever port is Root.
	tells(t, 50, []prio.Heard{over(at(2, 10, 50, 0), 1), over(at(2, 10, 50, 0), 1), to, over(at(2, 10, 50, 3), 1), over(at(2, 10, 50, 3), 1)}, 2, at(2, 10, 3, 0), designated, alternate, root, designated, alternate)
}

// plainBest and plainRoles say it as the document's words do, one by one.
func plainBest(bridge uint64, l []prio.Heard) (int, api.Vector) {
	port, best := -1, at(bridge, 0, bridge, 0)
	for i := len(l) - 1; i >= 0; i-- {
		h := l[i]
		if !h.Is || h.Vector.Bridge == bridge || h.Cost < 1 || h.Cost > mostWay || h.Vector.Cost < 0 || h.Vector.Cost > mostCost {
			continue
		}
		v := h.Vector
		v.Cost = min(v.Cost+h.Cost, mostCost)
		if less(v, best) || v == best && port >= 0 {
			port, best = i, v
		}
	}
	return port, best
}

func less(v, w api.Vector) bool {
	if v.Root != w.Root {
		return v.Root < w.Root
	}
	if v.Cost != w.Cost {
		return v.Cost < w.Cost
	}
	if v.Bridge != w.Bridge {
		return v.Bridge < w.Bridge
	}
	return v.Port < w.Port
}

func plainRoles(bridge uint64, l []prio.Heard) []int {
	port, best := plainBest(bridge, l)
	var roles []int
	for i, h := range l {
		role := designated
		if h.Is && less(h.Vector, at(best.Root, best.Cost, bridge, i)) {
			role = alternate
		}
		if i == port {
			role = root
		}
		roles = append(roles, role)
	}
	return roles
}

// P14.3, P14.4, P14.5, R6: whatever was heard, the answers are those of the words; one port at most is Root.
func TestBestAndRolesAsTheWords(t *testing.T) {
	seed := uint32(14)
	random := func(n int) int {
		seed = seed*1664525 + 1013904223
		return int(seed>>8) % n
	}
	costs := []int{0, 0, 1, 2, 3, mostCost - 2, mostCost, mostCost + 1, -1}
	ways := []int{1, 1, 2, 3, 4, mostWay, mostWay + 1, 0}
	for range 30000 {
		bridge := uint64(random(5))
		var l []prio.Heard
		for range random(6) {
			v := at(uint64(random(5)), costs[random(len(costs))], uint64(random(5)), random(5))
			l = append(l, prio.Heard{Is: random(5) > 0, Vector: v, Cost: ways[random(len(ways))]})
		}
		port, best := plainBest(bridge, l)
		roles := plainRoles(bridge, l)
		tells(t, bridge, l, port, best, roles...)
		roots := 0
		for _, r := range prio.Roles(bridge, l) {
			if r == root {
				roots++
			}
		}
		if p, v := prio.Best(bridge, l); roots > 1 || (roots == 0) != (p == -1) || (p == -1) != (v == prio.Own(bridge)) {
			t.Errorf("%v: %d roots, Best %d, %v", l, roots, p, v)
		}
	}
}

// P14.5: where the bridge is its own best, all are Designated but those that have heard something better.
func TestAllDesignatedOfTheRoot(t *testing.T) {
	l := []prio.Heard{{}, over(at(2, 0, 2, 0), 10), over(at(1, 0, 3, 0), 10), over(at(1, 10, 2, 0), 10), {}}
	tells(t, 1, l, -1, at(1, 0, 1, 0), designated, designated, designated, designated, designated)
	l[1] = over(at(0, 0, 9, 0), 0)
	tells(t, 1, l, -1, at(1, 0, 1, 0), designated, alternate, designated, designated, designated)
}

// R1: so many ports as one likes.
func TestManyPorts(t *testing.T) {
	l := make([]prio.Heard, 1000)
	want := make([]int, len(l))
	for i := range l {
		l[i], want[i] = over(at(1, 4, 9, 0), 10), alternate
	}
	l[700], want[700] = over(at(1, 0, 1, 0), 5), root
	l[900], want[900] = over(at(1, 5, 50, 901), 5), designated
	tells(t, 50, l, 700, at(1, 5, 1, 0), want...)
}

// R5: each answer of Roles is a list of its own, its spare room too.
func TestRolesAreNewMemory(t *testing.T) {
	l := []prio.Heard{over(at(1, 0, 1, 2), 10), {}, over(at(1, 0, 3, 2), 10)}
	whole := append(slices.Clone(l), over(at(0, 0, 0, 0), 1))
	first, second := prio.Roles(5, whole[:3]), prio.Roles(5, whole[:3])
	clear(first[:cap(first)])
	if !slices.Equal(second, []int{root, designated, alternate}) {
		t.Errorf("%v", second)
	}
	if !slices.Equal(whole[:3], l) || whole[3] != over(at(0, 0, 0, 0), 1) {
		t.Errorf("%v", whole)
	}
}
