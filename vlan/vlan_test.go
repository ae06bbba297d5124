package vlan_test

import (
	"math"
	"math/rand/v2"
	"slices"
	"strings"
	"testing"

	"siphon/api"
	"siphon/ether"
	"siphon/vlan"
)

// plain is a frame without a tag, marked one with it.
func plain() api.Frame {
	return api.Frame{Dst: "abcdef", Src: "ghijkl", Type: 0x800, Data: "data"}
}

func marked(v int, prio int) api.Frame {
	f := plain()
	f.Tagged, f.Vlan, f.Prio = true, v, prio
	return f
}

// changed is a frame with something else about it.
func changed(f api.Frame, change func(f *api.Frame)) api.Frame {
	change(&f)
	return f
}

// many are so many ports that may be, unlike each other.
func many(n int) []api.Port {
	var l []api.Port
	for i := range n {
		l = append(l, api.Port{Default: i + 1, Tagged: []int{100 + i, 200}, Plain: []int{i + 1}})
	}
	return l
}

// upTo are all VLANs from one to another one.
func upTo(first int, last int) []int {
	var l []int
	for v := first; v <= last; v++ {
		l = append(l, v)
	}
	return l
}

// maybe are ports that may be, each by itself.
func maybe() []api.Port {
	return []api.Port{
		{},
		{Tagged: []int{}, Plain: []int{}},
		{Plain: []int{1}},
		{Tagged: []int{1}},
		{Plain: []int{4094}, Default: 4094},
		{Tagged: []int{4094}, Default: 4094},
		{Plain: []int{1, 4094}},
		{Tagged: []int{1, 2, 3, 4094}, Default: 3},
		{Plain: []int{10, 20}, Default: 10},
		{Plain: []int{10, 20}, Default: 20},
		{Plain: []int{10, 20}},
		{Tagged: []int{10, 20}, Default: 10},
		{Tagged: []int{10, 20}, Default: 20},
		{Tagged: []int{10, 20}},
		{Tagged: []int{10, 30}, Plain: []int{20, 40}, Default: 10},
		{Tagged: []int{10, 30}, Plain: []int{20, 40}, Default: 40},
		{Tagged: []int{10, 30}, Plain: []int{20, 40}},
		{Tagged: []int{3, 4}, Plain: []int{1, 2}},
		{Tagged: upTo(1, 4094), Default: 4094},
		{Plain: upTo(1, 4094), Default: 1},
		{Tagged: upTo(1, 2000), Plain: upTo(2001, 4094), Default: 2001},
	}
}

// wrong are ports that may not be.
func wrong() []api.Port {
	return []api.Port{
		{Plain: []int{0}},
		{Tagged: []int{0}},
		{Plain: []int{0, 1}, Default: 1},
		{Tagged: []int{0, 1}},
		{Plain: []int{4095}},
		{Tagged: []int{4095}},
		{Plain: []int{1, 4095}},
		{Tagged: []int{4094, 4095}},
		{Plain: []int{-1}},
		{Tagged: []int{-1, 1}},
		{Plain: []int{math.MinInt}},
		{Tagged: []int{math.MaxInt}},
		{Plain: []int{2, 1}},
		{Tagged: []int{2, 1}},
		{Plain: []int{1, 3, 2}},
		{Tagged: []int{1, 3, 2}},
		{Plain: []int{1, 1}},
		{Tagged: []int{1, 1}},
		{Plain: []int{1, 2, 2, 3}},
		{Tagged: []int{1, 2, 1}},
		{Tagged: []int{1}, Plain: []int{1}},
		{Tagged: []int{1}, Plain: []int{1}, Default: 1},
		{Tagged: []int{1, 5, 9}, Plain: []int{2, 9}},
		{Tagged: []int{2, 5}, Plain: []int{1, 2}},
		{Tagged: []int{1, 5, 9}, Plain: []int{4, 5, 6}},
		{Tagged: []int{5}, Plain: []int{1, 2, 3, 4, 5}},
		{Tagged: []int{1, 2, 3, 4, 5}, Plain: []int{1}},
		{Tagged: upTo(1, 2000), Plain: upTo(2000, 4094)},
		{Default: 1},
		{Default: -1},
		{Default: 4095},
		{Default: math.MinInt},
		{Default: 2, Plain: []int{1, 3}},
		{Default: 2, Tagged: []int{1, 3}},
		{Default: 4, Tagged: []int{1, 3}, Plain: []int{2, 5}},
		{Default: -1, Tagged: []int{1}, Plain: []int{2}},
	}
}

// refused are frames that ether.Encode refuses.
func refused() []api.Frame {
	return []api.Frame{
		{},
		{Tagged: true, Vlan: 10},
		changed(marked(10, 0), func(f *api.Frame) { f.Dst = "abcde" }),
		changed(marked(10, 0), func(f *api.Frame) { f.Dst = "" }),
		changed(marked(10, 0), func(f *api.Frame) { f.Src = "ghijklm" }),
		changed(marked(10, 0), func(f *api.Frame) { f.Type = -1 }),
		changed(marked(10, 0), func(f *api.Frame) { f.Type = 65536 }),
		changed(marked(10, 0), func(f *api.Frame) { f.Data = strings.Repeat("x", 2001) }),
		changed(plain(), func(f *api.Frame) { f.Type = 0x8100 }),
		changed(plain(), func(f *api.Frame) { f.Vlan = 10 }),
		changed(plain(), func(f *api.Frame) { f.Prio = 1 }),
		changed(plain(), func(f *api.Frame) { f.Data = strings.Repeat("x", 2001) }),
		marked(4095, 0),
		marked(-1, 0),
		marked(math.MaxInt, 0),
		marked(10, 8),
		marked(10, -1),
		marked(0, 8),
	}
}

// way is In or Out.
type way func(l []api.Port, port int, f api.Frame) (api.Frame, api.Errno)

func ways() map[string]way { return map[string]way{"In": vlan.In, "Out": vlan.Out} }

// fails tells that a way must refuse a frame so, with no frame.
func fails(t *testing.T, name string, call way, want api.Errno, l []api.Port, port int, f api.Frame) {
	t.Helper()
	if has, e := call(l, port, f); has != (api.Frame{}) || e != want {
		t.Errorf("%s of port %d, %.99v: %.99v, %d, not %d", name, port, f, has, e, want)
	}
}

// gives tells that a way must answer that frame.
func gives(t *testing.T, name string, call way, want api.Frame, l []api.Port, port int, f api.Frame) {
	t.Helper()
	if has, e := call(l, port, f); has != want || e != api.OK {
		t.Errorf("%s of port %d, %.99v: %.99v, %d, not %.99v", name, port, f, has, e, want)
	}
}

// P12.1: 1 to 16 ports may be, no more and no fewer.
func TestCheckCountsPorts(t *testing.T) {
	for n, want := range map[int]api.Errno{0: api.ErrForm, 1: api.OK, 2: api.OK, 15: api.OK, 16: api.OK, 17: api.ErrForm, 100: api.ErrForm} {
		if e := vlan.Check(many(n)); e != want {
			t.Errorf("%d ports: %d", n, e)
		}
		if e := vlan.Check(make([]api.Port, n)); e != want {
			t.Errorf("%d empty ports: %d", n, e)
		}
	}
	if e := vlan.Check([]api.Port{}); e != api.ErrForm {
		t.Errorf("no port: %d", e)
	}
}

// P12.1: each port by itself, and among others, at each place.
func TestCheckOfEachPort(t *testing.T) {
	among := func(p api.Port) [][]api.Port {
		l := [][]api.Port{{p}, {p, p}}
		for i := range 16 {
			ports := many(16)
			ports[i] = p
			l = append(l, ports)
		}
		return l
	}
	for i, p := range maybe() {
		for _, l := range among(p) {
			if e := vlan.Check(l); e != api.OK {
				t.Errorf("case %d, among %d: %d", i, len(l), e)
			}
		}
	}
	for i, p := range wrong() {
		for _, l := range among(p) {
			if e := vlan.Check(l); e != api.ErrForm {
				t.Errorf("wrong %d, among %d: %d", i, len(l), e)
			}
		}
	}
}

// formed tells what the document says of a port.
func formed(p api.Port) bool {
	has := map[int]int{}
	for _, l := range [][]int{p.Tagged, p.Plain} {
		for i, v := range l {
			if v < 1 || v > 4094 || i > 0 && l[i-1] >= v || has[v] > 0 {
				return false
			}
			has[v]++
		}
	}
	return p.Default == 0 || has[p.Default] > 0
}

// P12.1: of all ports with up to two small numbers in each list.
func TestCheckOfAllSmallPorts(t *testing.T) {
	lists := [][]int{nil}
	for a := range 5 {
		lists = append(lists, []int{a})
		for b := range 5 {
			lists = append(lists, []int{a, b})
		}
	}
	for _, tagged := range lists {
		for _, untagged := range lists {
			for d := range 5 {
				p := api.Port{Default: d, Tagged: tagged, Plain: untagged}
				if e := vlan.Check([]api.Port{p}); (e == api.OK) != formed(p) || e != api.OK && e != api.ErrForm {
					t.Errorf("%v: %d", p, e)
				}
			}
		}
	}
}

// P12.1: who has a VLAN in either list is a member, whatever else the ports are.
func TestMembers(t *testing.T) {
	l := []api.Port{{Default: 10, Plain: []int{10, 20}}, {Tagged: []int{10}}, {}, {Default: 10, Tagged: []int{10, 20}, Plain: []int{30}}}
	odd := []api.Port{{Default: 7}, {Tagged: []int{9, 0, 9, -1}}, {Plain: []int{4095, 9, 5}, Tagged: []int{9}}, {Plain: []int{-1, 0}}, {Plain: []int{math.MaxInt, 2, 1}}}
	var alike []api.Port
	for range 20 {
		alike = append(alike, api.Port{Plain: []int{3}})
	}
	for i, c := range []struct {
		l    []api.Port
		v    int
		want []int
	}{
		{nil, 1, nil},
		{[]api.Port{}, 0, nil},
		{l, 10, []int{0, 1, 3}},
		{l, 20, []int{0, 3}},
		{l, 30, []int{3}},
		{l, 40, nil},
		{l, 0, nil},
		{l, -1, nil},
		{l, 4095, nil},
		{odd, 7, nil},
		{odd, 9, []int{1, 2}},
		{odd, 0, []int{1, 3}},
		{odd, -1, []int{1, 3}},
		{odd, 4095, []int{2}},
		{odd, 5, []int{2}},
		{odd, 1, []int{4}},
		{odd, math.MaxInt, []int{4}},
		{alike, 3, upTo(0, 19)},
		{alike, 2, nil},
		{many(16), 200, upTo(0, 15)},
		{many(16), 115, []int{15}},
	} {
		if m := vlan.Members(c.l, c.v); !slices.Equal(m, c.want) {
			t.Errorf("case %d: %v", i, m)
		}
	}
}

// ports are such as most tests use: 10 is plain, tagged, missing and tagged with 20 as Default.
func ports() []api.Port {
	return []api.Port{
		{Default: 10, Plain: []int{10, 20}, Tagged: []int{30}},
		{Tagged: []int{10}},
		{},
		{Default: 20, Tagged: []int{10, 20}},
		{Default: 4094, Tagged: []int{1}, Plain: []int{4094}},
	}
}

// P12.2: a frame's own VLAN, or the port's Default where it has none; its own Prio.
func TestIn(t *testing.T) {
	l := ports()
	for _, c := range []struct {
		port int
		f    api.Frame
		want api.Frame
	}{
		{0, plain(), marked(10, 0)},
		{0, marked(0, 0), marked(10, 0)},
		{0, marked(0, 5), marked(10, 5)},
		{0, marked(10, 0), marked(10, 0)},
		{0, marked(10, 7), marked(10, 7)},
		{0, marked(20, 1), marked(20, 1)},
		{0, marked(30, 2), marked(30, 2)},
		{1, marked(10, 3), marked(10, 3)},
		{3, plain(), marked(20, 0)},
		{3, marked(0, 4), marked(20, 4)},
		{3, marked(10, 6), marked(10, 6)},
		{4, plain(), marked(4094, 0)},
		{4, marked(4094, 7), marked(4094, 7)},
		{4, marked(1, 1), marked(1, 1)},
	} {
		gives(t, "In", vlan.In, c.want, l, c.port, c.f)
	}
}

// P12.2, R3: no Default, and VLANs that the port has not.
func TestInOfNoVlan(t *testing.T) {
	l := ports()
	for _, c := range []struct {
		port int
		f    api.Frame
	}{
		{1, plain()}, {1, marked(0, 0)}, {1, marked(0, 3)}, {2, plain()}, {2, marked(0, 7)},
		{0, marked(40, 0)}, {0, marked(1, 0)}, {0, marked(4094, 0)}, {0, marked(11, 0)},
		{1, marked(20, 0)}, {2, marked(10, 0)}, {3, marked(30, 1)}, {4, marked(10, 0)},
	} {
		fails(t, "In", vlan.In, api.ErrNone, l, c.port, c.f)
	}
}

// P12.3: with its tag, or without it and its Prio.
func TestOut(t *testing.T) {
	l := ports()
	for _, c := range []struct {
		port int
		f    api.Frame
		want api.Frame
	}{
		{0, marked(10, 0), plain()},
		{0, marked(10, 7), plain()},
		{0, marked(20, 3), plain()},
		{0, marked(30, 3), marked(30, 3)},
		{1, marked(10, 0), marked(10, 0)},
		{1, marked(10, 7), marked(10, 7)},
		{3, marked(10, 2), marked(10, 2)},
		{3, marked(20, 1), marked(20, 1)},
		{4, marked(4094, 1), plain()},
		{4, marked(1, 1), marked(1, 1)},
	} {
		gives(t, "Out", vlan.Out, c.want, l, c.port, c.f)
	}
}

// P12.3, R3: VLANs that the port has not, its Default's neighbours among them.
func TestOutOfNoMember(t *testing.T) {
	l := ports()
	for _, c := range []struct{ port, v int }{{0, 40}, {0, 9}, {0, 11}, {1, 20}, {1, 1}, {2, 10}, {2, 4094}, {3, 30}, {4, 4093}, {4, 10}} {
		fails(t, "Out", vlan.Out, api.ErrNone, l, c.port, marked(c.v, 0))
	}
}

// P12.2, P12.3: what is no VLAN's is carried through as it is.
func TestTheRestOfAFrameStays(t *testing.T) {
	l := ports()
	for _, f := range []api.Frame{
		{Dst: "\x01\x00\x5e\x01\x02\x03", Src: "\x02\x00\x00\x00\x00\x01", Type: 0},
		{Dst: "\xff\xff\xff\xff\xff\xff", Src: "\x00\x00\x00\x00\x00\x00", Type: 65535, Data: "\x00"},
		{Dst: "ghijkl", Src: "ghijkl", Type: 0x8101, Data: strings.Repeat("y", 2000)},
		{Dst: "abcdef", Src: "ghijkl", Type: 0x80ff, Data: "\x81\x00\x00\x0a"},
	} {
		inside := changed(f, func(f *api.Frame) { f.Tagged, f.Vlan, f.Prio = true, 10, 0 })
		gives(t, "In", vlan.In, inside, l, 0, f)
		gives(t, "In", vlan.In, inside, l, 1, inside)
		gives(t, "Out", vlan.Out, f, l, 0, inside)
		gives(t, "Out", vlan.Out, inside, l, 1, inside)
	}
}

// P12.3: what would be read as a tag doesn't go out without one; with one it does.
func TestOutOfATagsType(t *testing.T) {
	l := ports()
	double := func(v int) api.Frame {
		return changed(marked(v, 3), func(f *api.Frame) { f.Type = 0x8100 })
	}
	fails(t, "Out", vlan.Out, api.ErrNone, l, 0, double(10))
	fails(t, "Out", vlan.Out, api.ErrNone, l, 0, double(20))
	fails(t, "Out", vlan.Out, api.ErrNone, l, 4, double(4094))
	gives(t, "Out", vlan.Out, double(30), l, 0, double(30))
	gives(t, "Out", vlan.Out, double(10), l, 1, double(10))
	gives(t, "In", vlan.In, double(10), l, 0, double(10))
	gives(t, "In", vlan.In, double(10), l, 0, double(0))
}

// P12.2, P12.3, R2: ports that may not be are told ahead of all.
func TestPortsThatMayNotBe(t *testing.T) {
	sets := [][]api.Port{nil, {}, many(17)}
	for _, p := range wrong() {
		sets = append(sets, []api.Port{p}, append(many(3), p))
	}
	for name, call := range ways() {
		for _, l := range sets {
			for _, port := range []int{-1, 0, len(l) - 1, len(l)} {
				for _, f := range []api.Frame{{}, plain(), marked(0, 0), marked(10, 0), marked(4095, 0)} {
					fails(t, name, call, api.ErrForm, l, port, f)
				}
			}
		}
	}
}

// P12.2, P12.3, R2: a port that is none, ahead of what VLAN the frame has.
func TestPortsThatAreNone(t *testing.T) {
	for _, n := range []int{1, 3, 16} {
		l := many(n)
		for name, call := range ways() {
			for _, port := range []int{math.MinInt, -2, -1, n, n + 1, 16, 17, math.MaxInt} {
				if port >= 0 && port < n {
					continue
				}
				for _, f := range []api.Frame{{}, plain(), marked(0, 0), marked(200, 0), marked(5, 0)} {
					fails(t, name, call, api.ErrArg, l, port, f)
				}
			}
			gives(t, name, call, marked(200, 0), l, 0, marked(200, 0))
			gives(t, name, call, marked(200, 0), l, n-1, marked(200, 0))
		}
	}
}

// P12.2, P12.3, R2: frames that may not be are told ahead of a VLAN that is none.
func TestFramesThatMayNotBe(t *testing.T) {
	l := ports()
	for _, f := range refused() {
		if _, e := ether.Encode(f); e == api.OK {
			t.Errorf("%v may be", f)
		}
		for name, call := range ways() {
			for port := range l {
				fails(t, name, call, api.ErrArg, l, port, f)
			}
		}
	}
}

// P12.3, R2: what is no frame inside is told ahead of a VLAN that is none.
func TestOutOfNoFrameInside(t *testing.T) {
	l := append(ports(), api.Port{Tagged: []int{1}, Plain: []int{2}})
	for _, f := range []api.Frame{plain(), marked(0, 0), marked(0, 7), changed(marked(0, 1), func(f *api.Frame) { f.Type = 0x8100 })} {
		for port := range l {
			fails(t, "Out", vlan.Out, api.ErrArg, l, port, f)
		}
	}
}

// port is one that may be, of a few small VLANs.
func port(r *rand.Rand) api.Port {
	var p api.Port
	for v := 1; v <= 4; v++ {
		switch r.IntN(3) {
		case 0:
			p.Tagged = append(p.Tagged, v)
		case 1:
			p.Plain = append(p.Plain, v)
		default:
			continue
		}
		if r.IntN(2) == 0 {
			p.Default = v
		}
	}
	return p
}

// P12.2, P12.3: of ports and frames of all sorts, what the document says, step by step.
func TestInAndOutOfAllSorts(t *testing.T) {
	r := rand.New(rand.NewPCG(12, 3))
	for range 3000 {
		l := []api.Port{port(r), port(r)}
		f := plain()
		if r.IntN(4) > 0 {
			f = marked(r.IntN(6), r.IntN(8))
		}
		for i, p := range l {
			v := f.Vlan
			if !f.Tagged || v == 0 {
				v = p.Default
			}
			tagged, untagged := slices.Contains(p.Tagged, v), slices.Contains(p.Plain, v)
			if v == 0 || !tagged && !untagged {
				fails(t, "In", vlan.In, api.ErrNone, l, i, f)
			} else {
				gives(t, "In", vlan.In, marked(v, f.Prio), l, i, f)
			}
			tagged, untagged = slices.Contains(p.Tagged, f.Vlan), slices.Contains(p.Plain, f.Vlan)
			switch {
			case !f.Tagged || f.Vlan == 0:
				fails(t, "Out", vlan.Out, api.ErrArg, l, i, f)
			case tagged:
				gives(t, "Out", vlan.Out, f, l, i, f)
			case untagged:
				gives(t, "Out", vlan.Out, plain(), l, i, f)
			default:
				fails(t, "Out", vlan.Out, api.ErrNone, l, i, f)
			}
		}
	}
}

// P12.4: what came in goes out of its port and comes in again in the same VLAN, if it is Tagged there, or the Default in Plain.
func TestInOutAndInAgain(t *testing.T) {
	r := rand.New(rand.NewPCG(12, 4))
	times := 0
	for range 3000 {
		l := []api.Port{port(r)}
		f := plain()
		if r.IntN(4) > 0 {
			f = marked(r.IntN(5), r.IntN(8))
		}
		inside, e := vlan.In(l, 0, f)
		if e != api.OK {
			continue
		}
		out, e := vlan.Out(l, 0, inside)
		if e != api.OK {
			t.Errorf("%v, %v: %d", l, f, e)
		}
		tagged := slices.Contains(l[0].Tagged, inside.Vlan)
		if !tagged && inside.Vlan != l[0].Default {
			continue
		}
		times++
		again, e := vlan.In(l, 0, out)
		if again.Vlan != inside.Vlan || e != api.OK || tagged && again != inside {
			t.Errorf("%v, %v: %v, %d", l, f, again, e)
		}
	}
	if times < 500 {
		t.Errorf("%d times", times)
	}
}

// P12.1 to P12.3, R5, R6: ports are as they were, the room behind their lists too; an answer of Members is new memory.
func TestNothingIsChanged(t *testing.T) {
	roomy := func(l ...int) []int { return append(slices.Clone(l), 77, 77)[:len(l)] }
	l := []api.Port{{Default: 10, Plain: roomy(10, 20), Tagged: roomy(30)}, {Tagged: roomy(10)}, {Plain: roomy(20, 10), Tagged: roomy(20)}}
	for range 2 {
		if vlan.Check(l) != api.ErrForm || vlan.Check(l[:2]) != api.OK {
			t.Error("Check")
		}
		gives(t, "In", vlan.In, marked(10, 0), l[:2], 0, plain())
		gives(t, "Out", vlan.Out, plain(), l[:2], 0, marked(10, 1))
		m := vlan.Members(l, 10)
		if !slices.Equal(m, []int{0, 1, 2}) {
			t.Errorf("%v", m)
		}
		m = m[:cap(m)]
		for i := range m {
			m[i] = -1
		}
	}
	for i, c := range []struct {
		has  []int
		want []int
	}{{l[0].Plain, []int{10, 20}}, {l[0].Tagged, []int{30}}, {l[1].Tagged, []int{10}}, {l[2].Plain, []int{20, 10}}, {l[2].Tagged, []int{20}}} {
		if !slices.Equal(c.has, c.want) || c.has[:len(c.has)+1][len(c.has)] != 77 {
			t.Errorf("list %d: %v", i, c.has)
		}
	}
	if l[0].Default != 10 || l[1].Default != 0 || len(l[1].Plain) != 0 {
		t.Errorf("%v", l)
	}
}
