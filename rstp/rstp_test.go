package rstp_test

import (
	"math"
	"slices"
	"testing"

	"siphon/api"
	"siphon/prio"
	"siphon/rstp"
)

const (
	last    = 1 << 40
	mostWay = 200000000

	none       = prio.None
	root       = prio.Root
	designated = prio.Designated
	alternate  = prio.Alternate
)

// made is a part whose ports' ways cost so much; all are down.
func made(t *testing.T, bridge uint64, costs ...int) *rstp.Tree {
	t.Helper()
	d, e := rstp.New(bridge, costs)
	if d == nil || e != api.OK {
		t.Fatalf("%d, %v: %v, %d", bridge, costs, d, e)
	}
	return d
}

// up is a part of that bridge, with so many ports of cost 10, all of them up at the time.
func up(t *testing.T, bridge uint64, ports int, now int) *rstp.Tree {
	t.Helper()
	d := made(t, bridge, slices.Repeat([]int{10}, ports)...)
	for i := range ports {
		d.Link(i, true, now)
	}
	return d
}

// at is a vector of these parts, and from a message with it.
func at(root uint64, cost int, bridge uint64, port int) api.Vector {
	return api.Vector{Root: root, Cost: cost, Bridge: bridge, Port: port}
}

func from(v api.Vector, age int) api.Bpdu { return api.Bpdu{Vector: v, Age: age} }

// news is a message that tells of a change.
func news(v api.Vector, age int) api.Bpdu { return api.Bpdu{Vector: v, Age: age, Change: true} }

// plays tells that the ports' roles must be these, and that there are no more.
func plays(t *testing.T, d *rstp.Tree, roles ...int) {
	t.Helper()
	var l []int
	for i := range roles {
		l = append(l, d.Role(i))
	}
	if !slices.Equal(l, roles) {
		t.Errorf("roles %v, not %v", l, roles)
	}
	if n := len(roles); d.Role(n) != none || d.Learns(n) || d.Forwards(n) {
		t.Errorf("a port %d: %d, %v, %v", n, d.Role(n), d.Learns(n), d.Forwards(n))
	}
}

// rooted tells that Root must be v.
func rooted(t *testing.T, d *rstp.Tree, v api.Vector) {
	t.Helper()
	if r := d.Root(); r != v {
		t.Errorf("root %v, not %v", r, v)
	}
}

// passes tells whether a port must learn, and forward.
func passes(t *testing.T, d *rstp.Tree, port int, learns, forwards bool) {
	t.Helper()
	if l, f := d.Learns(port), d.Forwards(port); l != learns || f != forwards {
		t.Errorf("port %d learns %v, forwards %v, not %v, %v", port, l, f, learns, forwards)
	}
}

// changed tells what Changed must be.
func changed(t *testing.T, d *rstp.Tree, want int) {
	t.Helper()
	if n := d.Changed(); n != want {
		t.Errorf("changed at %d, not at %d", n, want)
	}
}

// tells tells what Tick must answer.
func tells(t *testing.T, d *rstp.Tree, now int, want ...rstp.Out) {
	t.Helper()
	if l := d.Tick(now); !slices.Equal(l, want) {
		t.Errorf("Tick of %d: %v, not %v", now, l, want)
	}
}

// state is all that a part with at most 17 ports shows.
type state struct {
	roles    [17]int
	learns   [17]bool
	forwards [17]bool
	root     api.Vector
	changed  int
}

func shown(d *rstp.Tree) state {
	s := state{root: d.Root(), changed: d.Changed()}
	for i := range 17 {
		s.roles[i], s.learns[i], s.forwards[i] = d.Role(i), d.Learns(i), d.Forwards(i)
	}
	return s
}

// P15.1: as many ports as costs; all down, nothing known.
func TestNew(t *testing.T) {
	for _, n := range []int{1, 2, 15, 16} {
		for _, cost := range []int{1, 2, 20000, mostWay - 1, mostWay} {
			for _, bridge := range []uint64{0, 5, 1 << 63, math.MaxUint64} {
				d := made(t, bridge, slices.Repeat([]int{cost}, n)...)
				plays(t, d, make([]int, n)...)
				rooted(t, d, at(bridge, 0, bridge, 0))
				changed(t, d, -1)
				for i := range n {
					passes(t, d, i, false, false)
				}
				tells(t, d, 0)
				d.Link(n-1, true, 0)
				plays(t, d, append(make([]int, n-1), designated)...)
				d.Link(n, true, 0)
				plays(t, d, append(make([]int, n-1), designated)...)
			}
		}
	}
}

// P15.1, R3: numbers of costs and costs beyond their edges.
func TestNewRefuses(t *testing.T) {
	refuses := func(costs []int) {
		t.Helper()
		if d, e := rstp.New(5, costs); d != nil || e != api.ErrArg {
			t.Errorf("%v: %v, %d", costs, d, e)
		}
	}
	refuses(nil)
	refuses([]int{})
	refuses(slices.Repeat([]int{10}, 17))
	refuses(slices.Repeat([]int{10}, 1000))
	refuses(make([]int, 17))
	for _, cost := range []int{0, -1, mostWay + 1, math.MinInt, math.MaxInt, 1<<32 + 1} {
		refuses([]int{cost})
		for i := range 16 {
			costs := slices.Repeat([]int{10}, 16)
			costs[i] = cost
			refuses(costs)
		}
	}
}

// R5: costs are as they were, and are not kept.
func TestCostsAreNotKept(t *testing.T) {
	costs := []int{10, 20, 30}
	d := made(t, 5, costs...)
	if !slices.Equal(costs, []int{10, 20, 30}) {
		t.Errorf("%v", costs)
	}
	clear(costs)
	d.Link(1, true, 0)
	d.Hear(1, from(at(1, 0, 1, 2), 0), 0)
	rooted(t, d, at(1, 20, 1, 2))
}

// P15.1, R1: calls of nil, and of a part that New did not make, do nothing.
func TestNil(t *testing.T) {
	var d *rstp.Tree
	for _, d := range []*rstp.Tree{d, new(rstp.Tree)} {
		for _, port := range []int{-1, 0, 1, 16, math.MinInt, math.MaxInt} {
			for _, now := range []int{-1, 0, 2, last, last + 1} {
				d.Link(port, true, now)
				d.Hear(port, news(at(1, 0, 1, 0), 1), now)
				tells(t, d, now)
				d.Link(port, false, now)
			}
			if d.Role(port) != none || d.Learns(port) || d.Forwards(port) {
				t.Errorf("port %d: %d, %v, %v", port, d.Role(port), d.Learns(port), d.Forwards(port))
			}
		}
		rooted(t, d, api.Vector{})
		changed(t, d, -1)
	}
}

// P15.4, P15.5: the document's example.
func TestTheDocumentsExample(t *testing.T) {
	d := up(t, 5, 1, 0)
	tells(t, d, 0, rstp.Out{Bpdu: from(at(5, 0, 5, 0), 0)})
	tells(t, d, 29)
	passes(t, d, 0, true, false)
	tells(t, d, 30, rstp.Out{Bpdu: api.Bpdu{Vector: at(5, 0, 5, 0), Change: true, Learn: true, Fwd: true}})
	passes(t, d, 0, true, true)
	changed(t, d, 30)
}

// P15.2: ports come up and go down, each for itself.
func TestLink(t *testing.T) {
	d := made(t, 5, 10, 10, 10)
	d.Link(1, true, 3)
	plays(t, d, none, designated, none)
	d.Link(2, true, 4)
	plays(t, d, none, designated, designated)
	d.Link(1, false, 5)
	plays(t, d, none, none, designated)
	d.Link(1, false, 5)
	plays(t, d, none, none, designated)
	d.Link(0, true, 6)
	d.Link(0, true, 7)
	plays(t, d, designated, none, designated)
	d.Link(0, false, 8)
	d.Link(2, false, 8)
	plays(t, d, none, none, none)
}

// P15.2: who comes up again begins anew; who is told up twice does not.
func TestUpAgain(t *testing.T) {
	d := up(t, 5, 2, 0)
	d.Link(0, true, 10)
	d.Tick(20)
	d.Link(1, false, 20)
	passes(t, d, 0, true, false)
	passes(t, d, 1, false, false)
	d.Link(1, true, 20)
	passes(t, d, 1, false, false)
	d.Tick(30)
	passes(t, d, 0, true, true)
	passes(t, d, 1, false, false)
	d.Tick(34)
	passes(t, d, 1, false, false)
	d.Tick(35)
	passes(t, d, 1, true, false)
	d.Tick(49)
	passes(t, d, 1, true, false)
	changed(t, d, 30)
	d.Tick(50)
	passes(t, d, 1, true, true)
	changed(t, d, 50)
	d.Link(1, false, 51)
	passes(t, d, 1, false, false)
	plays(t, d, designated, none)
	changed(t, d, 50)
	d.Link(1, true, 51)
	passes(t, d, 1, false, false)
	d.Tick(81)
	passes(t, d, 1, true, true)
	changed(t, d, 81)
}

// P15.2: Link sets the part right: what is old goes, and who has waited forwards.
func TestLinkSetsRight(t *testing.T) {
	d := up(t, 5, 2, 0)
	d.Link(1, false, 0)
	d.Hear(0, from(at(1, 0, 1, 0), 0), 24)
	d.Link(1, true, 29)
	plays(t, d, root, designated)
	passes(t, d, 0, true, false)
	d.Link(1, true, 30)
	plays(t, d, designated, designated)
	passes(t, d, 0, true, true)
	rooted(t, d, prio.Own(5))
	changed(t, d, 30)
}

// P15.2: a port that goes down forgets what it kept; nobody else does.
func TestDownForgets(t *testing.T) {
	d := up(t, 5, 3, 0)
	d.Hear(0, from(at(1, 0, 1, 0), 0), 1)
	d.Hear(1, from(at(2, 0, 2, 0), 0), 1)
	plays(t, d, root, designated, designated)
	d.Link(0, false, 2)
	plays(t, d, none, root, designated)
	rooted(t, d, at(2, 10, 2, 0))
	d.Link(0, true, 2)
	plays(t, d, designated, root, designated)
	d.Link(2, true, 2)
	d.Link(1, true, 2)
	plays(t, d, designated, root, designated)
}

// P15.3: what comes to a port that is down, or to none, is nothing, and its time neither.
func TestHearOfNobody(t *testing.T) {
	d := up(t, 5, 2, 0)
	d.Link(1, false, 0)
	for _, port := range []int{1, -1, 2, 16, math.MinInt, math.MaxInt} {
		was := shown(d)
		d.Hear(port, news(at(1, 0, 1, 0), 0), 100)
		if now := shown(d); now != was {
			t.Errorf("port %d: %v became %v", port, was, now)
		}
	}
	d.Tick(29)
	passes(t, d, 0, true, false)
	d.Link(1, true, 29)
	plays(t, d, designated, designated)
	d.Hear(1, from(at(1, 0, 1, 0), 0), 29)
	plays(t, d, designated, root)
}

// A port that there is not: nothing is done, and the time does not count.
func TestLinkOfNobody(t *testing.T) {
	d := up(t, 5, 2, 0)
	for _, port := range []int{-1, 2, 16, math.MinInt, math.MaxInt} {
		was := shown(d)
		d.Link(port, false, 100)
		d.Link(port, true, 100)
		if now := shown(d); now != was {
			t.Errorf("port %d: %v became %v", port, was, now)
		}
		passes(t, d, port, false, false)
		if d.Role(port) != none {
			t.Errorf("port %d: %d", port, d.Role(port))
		}
	}
	d.Tick(14)
	passes(t, d, 1, false, false)
	d.Link(1, false, 14)
	plays(t, d, designated, none)
	d.Link(0, false, 14)
	plays(t, d, none, none)
}

// A time that may not be: nothing is done, nor answered; the edges that may be are well.
func TestWrongTimes(t *testing.T) {
	d := up(t, 5, 2, 0)
	d.Hear(0, from(at(1, 0, 1, 0), 0), 0)
	for _, now := range []int{-1, -2, last + 1, last + 2, math.MinInt, math.MaxInt} {
		was := shown(d)
		d.Link(1, false, now)
		d.Hear(1, news(at(0, 0, 0, 0), 0), now)
		tells(t, d, now)
		if s := shown(d); s != was {
			t.Errorf("%d: %v became %v", now, was, s)
		}
	}
	tells(t, d, 4, rstp.Out{Port: 1, Bpdu: from(at(1, 10, 5, 1), 1)})
	tells(t, d, last, rstp.Out{Port: 0, Bpdu: api.Bpdu{Vector: at(5, 0, 5, 0), Change: true, Learn: true, Fwd: true}}, rstp.Out{Port: 1, Bpdu: api.Bpdu{Vector: at(5, 0, 5, 1), Change: true, Learn: true, Fwd: true}})
	changed(t, d, last)
	d.Hear(1, from(at(1, 0, 1, 0), 0), last)
	plays(t, d, designated, root)
	d.Link(0, false, last)
	plays(t, d, none, root)
}

// The time is the greatest now: a lesser one sets right at that, and keeps what it brings as heard at that.
func TestTimeDoesNotGoBack(t *testing.T) {
	d := up(t, 5, 2, 20)
	d.Link(1, false, 3)
	d.Link(1, true, 4) // at 20
	d.Tick(34)
	passes(t, d, 1, false, false)
	d.Tick(35)
	passes(t, d, 1, true, false)
	d.Tick(0)
	passes(t, d, 1, true, false)
	d.Hear(1, from(at(1, 0, 1, 0), 0), 2) // at 35
	d.Tick(40)
	plays(t, d, designated, root)
	d.Tick(7)
	plays(t, d, designated, root)
	d.Tick(41)
	plays(t, d, designated, designated)
	d.Hear(1, news(at(1, 0, 1, 0), 0), 2)
	changed(t, d, 41)
	for _, set := range []func(){func() { d.Link(0, true, 47) }, func() { d.Hear(0, from(at(9, 0, 9, 0), 0), 53) }, func() { d.Tick(59) }} {
		d.Hear(1, from(at(1, 0, 1, 0), 0), 0)
		plays(t, d, designated, root)
		set()
		plays(t, d, designated, designated)
	}
}

// P15.3: a message is old 6 behind its hearing, of each port for itself.
func TestOld(t *testing.T) {
	for _, when := range []int{0, 1, 2, 77, 1 << 33, last - 6} {
		d := up(t, 5, 2, when)
		d.Hear(0, from(at(1, 0, 1, 0), 0), when)
		d.Hear(1, from(at(2, 0, 2, 0), 0), when+1)
		d.Tick(when + 5)
		plays(t, d, root, designated)
		d.Tick(when + 6)
		plays(t, d, designated, root)
		d.Tick(when + 7)
		if when+7 <= last {
			plays(t, d, designated, designated)
		}
	}
}

// P15.3: a worse message of another takes the place of an old one, not of one that is not.
func TestOldGivesWay(t *testing.T) {
	d := up(t, 5, 1, 0)
	d.Hear(0, from(at(1, 0, 1, 0), 0), 10)
	d.Hear(0, from(at(2, 0, 2, 0), 0), 15)
	rooted(t, d, at(1, 10, 1, 0))
	d.Hear(0, from(at(2, 0, 2, 0), 0), 16)
	rooted(t, d, at(2, 10, 2, 0))
	d.Tick(21)
	rooted(t, d, at(2, 10, 2, 0))
	d.Tick(22)
	rooted(t, d, prio.Own(5))
}

// P15.3: a message of an Age of 19 is heard; one of 20 is old at once, and what its sender had told goes with it.
func TestHops(t *testing.T) {
	v := at(1, 0, 1, 0)
	for _, age := range []int{math.MinInt, -1, 0, 1, 18, 19} {
		d := up(t, 5, 1, 0)
		d.Hear(0, from(v, age), 0)
		plays(t, d, root)
	}
	for _, age := range []int{20, 21, 255, math.MaxInt} {
		d := up(t, 5, 1, 0)
		d.Hear(0, from(v, age), 0)
		plays(t, d, designated)
		rooted(t, d, prio.Own(5))
		d.Hear(0, from(v, 19), 0)
		plays(t, d, root)
		d.Hear(0, from(at(2, 0, 2, 0), age), 0)
		plays(t, d, root)
		d.Hear(0, from(v, age), 0)
		plays(t, d, designated)
	}
}

// P15.3: what is kept, against what has been kept: the better, the same, and what its sender tells.
func TestWhatIsKept(t *testing.T) {
	was := at(2, 20, 3, 4)
	for _, one := range []struct {
		v    api.Vector
		kept bool
	}{
		{was, true},
		{at(1, 90, 9, 9), true},
		{at(2, 19, 9, 9), true},
		{at(2, 20, 2, 9), true},
		{at(2, 20, 3, 3), true},
		{at(2, 21, 3, 4), true},
		{at(3, 0, 3, 4), true},
		{at(4, 99, 3, 4), true},
		{at(2, 20, 3, 5), false},
		{at(2, 20, 4, 4), false},
		{at(2, 20, 4, 0), false},
		{at(2, 21, 2, 4), false},
		{at(2, 21, 3, 3), false},
		{at(3, 0, 1, 4), false},
		{at(3, 0, 3, 0), false},
	} {
		d := up(t, 50, 1, 0)
		d.Hear(0, from(was, 3), 0)
		d.Hear(0, news(one.v, 5), 4)
		want, change := at(was.Root, was.Cost+10, was.Bridge, was.Port), -1
		if one.kept {
			want, change = at(one.v.Root, one.v.Cost+10, one.v.Bridge, one.v.Port), 4
		}
		rooted(t, d, want)
		changed(t, d, change)
		d.Tick(6)
		if one.kept {
			plays(t, d, root)
			d.Tick(9)
			rooted(t, d, want)
			d.Tick(10)
		}
		plays(t, d, designated)
		rooted(t, d, prio.Own(50))
	}
}

// P15.3: the same again lives on, and its Age is the last one heard.
func TestTheSameAgain(t *testing.T) {
	d := up(t, 5, 2, 0)
	for now := range 200 {
		if now%5 == 0 {
			d.Hear(0, from(at(1, 0, 1, 0), now%18), now)
		}
		if l := d.Tick(now); now%2 == 0 && (len(l) != 1 || l[0].Port != 1 || l[0].Bpdu.Age != now/5*5%18+1) {
			t.Errorf("%d: %v", now, l)
		}
		plays(t, d, root, designated)
	}
}

// P15.3: a message with costs that may not be is kept, but leads nowhere.
func TestWrongCosts(t *testing.T) {
	for _, cost := range []int{-1, 1 << 32, math.MinInt, math.MaxInt} {
		d := up(t, 5, 2, 0)
		d.Hear(0, from(at(1, cost, 1, 0), 0), 0)
		d.Hear(1, from(at(2, 0, 2, 0), 0), 0)
		plays(t, d, alternate, root)
		rooted(t, d, at(2, 10, 2, 0))
	}
	d := up(t, 5, 1, 0)
	d.Hear(0, from(at(1, 1<<32-1, 1, 0), 0), 0)
	rooted(t, d, at(1, 1<<32-1, 1, 0))
}

// P15.3: a Change that is kept is one at the time, but not one of the bridge's own.
func TestChangeIsHeard(t *testing.T) {
	d := up(t, 5, 2, 0)
	d.Hear(0, from(at(1, 0, 1, 0), 0), 1)
	changed(t, d, -1)
	d.Hear(0, news(at(1, 0, 1, 0), 0), 2)
	changed(t, d, 2)
	d.Hear(0, news(at(2, 0, 2, 0), 0), 3) // not kept
	changed(t, d, 2)
	d.Hear(1, news(at(9, 0, 9, 0), 0), 4) // at a port that stays Designated
	changed(t, d, 4)
	d.Hear(1, news(at(0, 0, 5, 0), 0), 5) // its own
	changed(t, d, 4)
	d.Hear(0, news(at(0, 0, 6, 0), 20), 6) // kept, and old at once
	changed(t, d, 6)
	plays(t, d, designated, alternate)
	d.Hear(0, from(at(1, 0, 1, 0), 0), 7)
	changed(t, d, 6)
	d.Hear(0, news(at(1, 0, 1, 0), 0), 3)
	changed(t, d, 7)
	d.Hear(0, news(at(1, 0, 1, 0), 0), 9)
	changed(t, d, 9)
	d = up(t, 0, 1, 0)
	d.Hear(0, news(at(0, 0, 0, 0), 0), 0)
	changed(t, d, -1)
	d.Hear(0, news(at(0, 0, 0, 1), 0), 0)
	changed(t, d, -1)
	d = up(t, 5, 1, 0)
	d.Hear(0, news(at(1, 0, 1, 0), 0), 0)
	changed(t, d, 0)
	tells(t, d, 0)
	d.Link(0, false, 1)
	changed(t, d, 0)
}

// P15.4: news is told for less than 4 ticks, whether it comes from a port that forwards or was heard.
func TestChangeIsTold(t *testing.T) {
	for _, begin := range []int{0, 1, 2, 3, 50} {
		d := up(t, 5, 2, begin)
		d.Hear(0, news(at(9, 0, 9, 0), 0), begin)
		for now := begin; now < begin+60; now++ {
			want := now-begin < 4 || now >= begin+30 && now < begin+34
			for _, o := range d.Tick(now) {
				if o.Bpdu.Change != want {
					t.Errorf("at %d from %d on: %v", now, begin, o)
				}
			}
		}
	}
	d := up(t, 5, 1, 0)
	for now := range 31 { // while there was no change, none is told, also near 0
		for _, o := range d.Tick(now) {
			if o.Bpdu.Change != (now == 30) {
				t.Errorf("at %d: %v", now, o)
			}
		}
	}
	tells(t, d, 4, rstp.Out{Bpdu: api.Bpdu{Vector: at(5, 0, 5, 0), Change: true, Learn: true, Fwd: true}}) // it is 30 still
	d.Tick(33)
	tells(t, d, 4, rstp.Out{Bpdu: api.Bpdu{Vector: at(5, 0, 5, 0), Change: true, Learn: true, Fwd: true}})
	d.Tick(34)
	tells(t, d, 4, rstp.Out{Bpdu: api.Bpdu{Vector: at(5, 0, 5, 0), Learn: true, Fwd: true}})
}

// P15.4: of an even now messages go out, of an odd one none, whatever the time is; the part is set right by both.
func TestEvenAndOdd(t *testing.T) {
	for _, when := range []int{0, 1, 6, 7, 1<<40 - 1} {
		d := up(t, 5, 2, when)
		for _, now := range []int{0, 1, 2, 3, when, when + 1} {
			if l := d.Tick(now); len(l) != 2*(1-now%2) {
				t.Errorf("%d, %d: %v", when, now, l)
			}
		}
	}
	d := up(t, 5, 1, 0)
	d.Hear(0, from(at(1, 0, 1, 0), 0), 0)
	tells(t, d, 5)
	plays(t, d, root)
	tells(t, d, 7)
	plays(t, d, designated)
	tells(t, d, 31)
	passes(t, d, 0, true, true)
	changed(t, d, 31)
}

// P15.4: Designated ports that are up tell, by their numbers, and nobody else.
func TestWhoTells(t *testing.T) {
	d := made(t, 5, 10, 20, 30, 40, 50, 60)
	for _, port := range []int{5, 3, 1, 2, 0} {
		d.Link(port, true, 0)
	}
	d.Hear(2, from(at(1, 100, 3, 7), 4), 0)
	d.Hear(1, from(at(1, 100, 4, 7), 9), 0) // the better one: its way costs less
	d.Hear(3, from(at(1, 110, 4, 8), 9), 0)
	d.Hear(5, from(at(2, 0, 2, 0), 0), 0)
	plays(t, d, designated, root, alternate, alternate, none, designated)
	rooted(t, d, at(1, 120, 4, 7))
	tells(t, d, 2, rstp.Out{Port: 0, Bpdu: from(at(1, 120, 5, 0), 10)}, rstp.Out{Port: 5, Bpdu: from(at(1, 120, 5, 5), 10)})
	d.Link(1, false, 2)
	rooted(t, d, at(1, 130, 3, 7))
	tells(t, d, 4, rstp.Out{Port: 0, Bpdu: from(at(1, 130, 5, 0), 5)}, rstp.Out{Port: 5, Bpdu: from(at(1, 130, 5, 5), 5)})
	tells(t, d, 6, rstp.Out{Port: 0, Bpdu: from(at(5, 0, 5, 0), 0)}, rstp.Out{Port: 2, Bpdu: from(at(5, 0, 5, 2), 0)}, rstp.Out{Port: 3, Bpdu: from(at(5, 0, 5, 3), 0)}, rstp.Out{Port: 5, Bpdu: from(at(5, 0, 5, 5), 0)})
	for port := range 6 {
		d.Link(port, false, 6)
	}
	tells(t, d, 6)
}

// P15.4: Age is one more than the Root port's, 20 at no time.
func TestAge(t *testing.T) {
	for _, age := range []int{-7, -1, 0, 1, 17, 18} {
		d := up(t, 5, 3, 0)
		d.Hear(1, from(at(2, 0, 2, 0), 19), 0) // not the Root port's
		d.Hear(2, from(at(1, 0, 1, 0), age), 0)
		tells(t, d, 0, rstp.Out{Port: 0, Bpdu: from(at(1, 10, 5, 0), age+1)}, rstp.Out{Port: 1, Bpdu: from(at(1, 10, 5, 1), age+1)})
	}
	d := up(t, 5, 3, 0)
	d.Hear(1, from(at(2, 0, 2, 0), 3), 0)
	d.Hear(2, from(at(1, 0, 1, 0), 19), 0)
	plays(t, d, designated, designated, root)
	tells(t, d, 0)
	tells(t, d, 4)
	d.Hear(2, from(at(1, 0, 1, 0), 18), 4)
	tells(t, d, 4, rstp.Out{Port: 0, Bpdu: from(at(1, 10, 5, 0), 19)}, rstp.Out{Port: 1, Bpdu: from(at(1, 10, 5, 1), 19)})
}

// P15.4: Learn and Fwd are each port's own.
func TestFlagsAreThePorts(t *testing.T) {
	d := made(t, 5, 10, 10, 10)
	d.Link(0, true, 0)
	d.Link(1, true, 10)
	d.Link(2, true, 20)
	v := func(port int) api.Vector { return at(5, 0, 5, port) }
	tells(t, d, 14, rstp.Out{Bpdu: api.Bpdu{Vector: v(0), Learn: true}}, rstp.Out{Port: 1, Bpdu: from(v(1), 0)}, rstp.Out{Port: 2, Bpdu: from(v(2), 0)})
	tells(t, d, 28, rstp.Out{Bpdu: api.Bpdu{Vector: v(0), Learn: true}}, rstp.Out{Port: 1, Bpdu: api.Bpdu{Vector: v(1), Learn: true}}, rstp.Out{Port: 2, Bpdu: from(v(2), 0)})
	tells(t, d, 36, rstp.Out{Bpdu: api.Bpdu{Vector: v(0), Change: true, Learn: true, Fwd: true}}, rstp.Out{Port: 1, Bpdu: api.Bpdu{Vector: v(1), Change: true, Learn: true}}, rstp.Out{Port: 2, Bpdu: api.Bpdu{Vector: v(2), Change: true, Learn: true}})
	changed(t, d, 36)
}

// P15.5, P15.6: a port learns 15 behind and forwards 30 behind its becoming active, not one less.
func TestLearnsAndForwards(t *testing.T) {
	for _, begin := range []int{0, 1, 2, 1000, last - 40} {
		d := up(t, 5, 1, begin)
		for now := begin; now <= begin+40; now++ {
			d.Tick(now)
			passes(t, d, 0, now >= begin+15, now >= begin+30)
			if now < begin+30 {
				changed(t, d, -1)
			} else {
				changed(t, d, begin+30)
			}
		}
	}
}

// P15.5: nothing comes by itself: all is as it was when the part was set right last.
func TestAsSetRightLast(t *testing.T) {
	d := up(t, 5, 1, 0)
	d.Link(3, true, 100)
	d.Hear(-1, from(at(1, 0, 1, 0), 0), 100)
	passes(t, d, 0, false, false)
	d.Hear(0, from(at(1, 0, 1, 0), 0), 15)
	passes(t, d, 0, true, false)
	rooted(t, d, at(1, 10, 1, 0))
	d.Hear(0, from(at(1, 0, 1, 0), 0), 30)
	passes(t, d, 0, true, true)
	plays(t, d, root)
	changed(t, d, 30)
}

// A port that goes from Designated to Root and back stays active since then.
func TestActiveGoesOn(t *testing.T) {
	d := up(t, 5, 2, 0)
	d.Hear(0, from(at(1, 0, 1, 0), 0), 10)
	plays(t, d, root, designated)
	d.Tick(15)
	passes(t, d, 0, true, false)
	d.Tick(16)
	plays(t, d, designated, designated)
	passes(t, d, 0, true, false)
	d.Hear(0, from(at(1, 0, 1, 0), 0), 29)
	plays(t, d, root, designated)
	passes(t, d, 0, true, false)
	d.Tick(30)
	passes(t, d, 0, true, true)
	passes(t, d, 1, true, true)
	changed(t, d, 30)
	d.Tick(35)
	plays(t, d, designated, designated)
	d.Hear(1, from(at(1, 0, 1, 0), 0), 36)
	plays(t, d, designated, root)
	passes(t, d, 0, true, true)
	passes(t, d, 1, true, true)
	changed(t, d, 30)
}

// A port that is Alternate is not active, and waits anew when it is no more; none goes by what it was.
func TestAlternateWaitsAnew(t *testing.T) {
	d := up(t, 5, 2, 0)
	d.Tick(30)
	passes(t, d, 1, true, true)
	d.Hear(0, from(at(1, 0, 1, 0), 0), 32)
	d.Hear(1, from(at(1, 0, 1, 1), 0), 32)
	plays(t, d, root, alternate)
	passes(t, d, 0, true, true)
	passes(t, d, 1, false, false)
	changed(t, d, 30)
	tells(t, d, 36)
	d.Tick(38)
	plays(t, d, designated, designated)
	passes(t, d, 0, true, true)
	for now := 38; now < 80; now++ {
		d.Tick(now)
		passes(t, d, 1, now >= 38+15, now >= 38+30)
	}
	changed(t, d, 68)
	// From Alternate to Root.
	d.Hear(0, from(at(1, 0, 1, 0), 0), 80)
	d.Hear(1, from(at(1, 0, 1, 1), 0), 81)
	plays(t, d, root, alternate)
	d.Tick(86)
	plays(t, d, designated, root)
	passes(t, d, 1, false, false)
	d.Hear(1, from(at(1, 0, 1, 1), 0), 91)
	d.Hear(1, from(at(1, 0, 1, 1), 0), 96)
	d.Tick(100)
	passes(t, d, 1, false, false)
	d.Tick(101)
	plays(t, d, designated, root)
	passes(t, d, 1, true, false)
}

// P15.3: what a bridge has told itself, by a wire between two of its ports: the greater one is Alternate.
func TestItsOwnMessages(t *testing.T) {
	d := up(t, 5, 2, 0)
	for now := range 100 {
		for _, o := range d.Tick(now) {
			d.Hear(1-o.Port, o.Bpdu, now)
		}
	}
	plays(t, d, designated, alternate)
	rooted(t, d, prio.Own(5))
	passes(t, d, 0, true, true)
	passes(t, d, 1, false, false)
	changed(t, d, 30)
}

// P15.6: a bridge that hears nothing is its own root; all its ports that are up forward 30 behind.
func TestAlone(t *testing.T) {
	d := made(t, 7, slices.Repeat([]int{1}, 16)...)
	for port := range 16 {
		if port != 9 {
			d.Link(port, true, port)
		}
	}
	for now := range 60 {
		d.Tick(now)
		rooted(t, d, prio.Own(7))
		for port := range 16 {
			at := max(now, 15)
			passes(t, d, port, port != 9 && at >= port+15, port != 9 && at >= port+30)
		}
	}
	changed(t, d, 45)
}

// R5: what Tick answers is memory of its own.
func TestTickAnswersNewMemory(t *testing.T) {
	d := up(t, 5, 3, 0)
	first := d.Tick(0)
	second := d.Tick(0)
	want := slices.Clone(second)
	clear(first[:cap(first)])
	if !slices.Equal(second, want) {
		t.Errorf("%v, not %v", second, want)
	}
	tells(t, d, 0, want...)
}

// R6: parts side by side know nothing of one another.
func TestSideBySide(t *testing.T) {
	x, y := up(t, 5, 2, 0), up(t, 5, 2, 0)
	was := shown(y)
	x.Hear(0, news(at(1, 0, 1, 0), 0), 3)
	x.Link(1, false, 40)
	if now := shown(y); now != was {
		t.Errorf("%v became %v", was, now)
	}
	plays(t, x, designated, none)
	y.Tick(14)
	passes(t, y, 0, false, false)
}
