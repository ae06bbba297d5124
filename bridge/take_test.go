package bridge_test

import (
	"math"
	"slices"
	"strings"
	"testing"

	"siphon/api"
	"siphon/bpdu"
	"siphon/bridge"
)

// badTimes are those that may not be.
var badTimes = []int{0, -1, lastTime + 1, math.MinInt, math.MaxInt}

// The example of the chapter, and the first two of the whole.
func TestExamples(t *testing.T) {
	b := up(t, config(2))
	for now := 1; now <= 40; now++ {
		b.Tick(now)
		if now == 20 {
			goes(t, b, 0, plain(bert, anna), now)
		}
	}
	goes(t, b, 0, plain(bert, anna), 40, 1)
}

// P23.2: a port forwards 30 behind its coming up, and no more when it is down.
func TestLink(t *testing.T) {
	b := up(t, silent(3))
	b.Tick(30)
	opens(t, b)
	b.Link(2, true, 31)
	opens(t, b, 0, 1, 2)
	b.Link(1, false, 32)
	opens(t, b, 0, 2)
	goes(t, b, 0, plain(all, anna), 33, 2)
	goes(t, b, 1, plain(all, anna), 33)
	b.Link(1, true, 34)
	b.Tick(63)
	opens(t, b, 0, 2)
	b.Tick(64)
	opens(t, b, 0, 1, 2)
}

// P23.2: of a port that goes down all is forgotten, of others nothing.
func TestLinkForgets(t *testing.T) {
	b := open(t, config(4))
	for port, src := range []api.Mac{anna, bert} {
		goes(t, b, port, plain(src, src), 60)
	}
	for _, port := range []int{1, 2} {
		b.Take(port, joins4(group4), 60)
		b.Take(port, joins6(group6), 60)
	}
	for _, port := range []int{1, 3} {
		b.Take(port, asks4(host4), 60)
	}
	b.Take(3, plain(cleo, bert), 60)
	b.Take(1, plain(cleo, bert), 60)
	b.Take(0, plain(cleo, anna), 60)
	goes(t, b, 2, plain(bert, cleo), 61, 1)
	goes(t, b, 2, plain(anna, cleo), 61, 0)
	wants(t, b, group4, 61, 1, 2)
	wants(t, b, group6, 61, 1, 2)
	routers(t, b, 61, 1, 3)
	b.Link(1, false, 61)
	goes(t, b, 2, plain(bert, cleo), 61, 0, 3)
	goes(t, b, 2, plain(anna, cleo), 61, 0)
	wants(t, b, group4, 61, 2)
	wants(t, b, group6, 61, 2)
	routers(t, b, 61, 3)
	b.Link(2, true, 61)
	wants(t, b, group4, 61, 2)
	goes(t, b, 0, plain(cleo, anna), 61, 2)
}

// P23.2: of a port that there is not nothing is done.
func TestLinkOfNoPort(t *testing.T) {
	b := open(t, silent(3))
	b.Take(1, joins4(group4), 60)
	goes(t, b, 0, plain(anna, anna), 60)
	for _, port := range []int{-1, 3, 16, math.MinInt, math.MaxInt} {
		b.Link(port, false, 60)
		b.Link(port, true, 60)
	}
	opens(t, b, 0, 1, 2)
	wants(t, b, group4, 60, 1)
	goes(t, b, 1, plain(anna, bert), 60, 0)
}

// P23.2, P23.3, P23.6: at a time that may not be nothing is done, and nothing comes of it; at the least and the greatest one all is.
func TestTimes(t *testing.T) {
	b := open(t, config(3))
	b.Take(1, joins4(group4), 60)
	b.Take(2, asks4(host4), 60)
	goes(t, b, 1, plain(bert, bert), 60)
	for _, now := range badTimes {
		b.Link(1, false, now)
		b.Link(2, false, now)
		goes(t, b, 0, plain(all, anna), now)
		goes(t, b, 0, joins4(other4), now)
		goes(t, b, 0, asks4(host4), now)
		goes(t, b, 0, leaves4(group4), now)
		goes(t, b, 0, treeSays(root()), now)
		if l := b.Tick(now); len(l) != 0 {
			t.Errorf("Tick of %d: %v", now, l)
		}
	}
	opens(t, b, 0, 1, 2)
	wants(t, b, group4, 60, 1)
	wants(t, b, other4, 60)
	routers(t, b, 60, 2)
	goes(t, b, 0, plain(bert, anna), 60, 1)
	isRoot(t, b, 62, true)
	b = made(t, silent(2), 1)
	b.Link(0, true, 1)
	b.Link(1, true, lastTime-30)
	b.Tick(lastTime)
	opens(t, b, 0, 1)
	goes(t, b, 0, plain(all, anna), lastTime, 1)
	goes(t, b, 0, plain(all, anna), 1, 1)
	b.Link(1, false, lastTime)
	opens(t, b, 0)
}

// P23.3: nothing comes of a port that there is not, nor of one that is down.
func TestTakeByNoPort(t *testing.T) {
	b := open(t, silent(3))
	b.Link(2, false, 40)
	for _, port := range []int{-1, 2, 3, 16, math.MinInt, math.MaxInt} {
		goes(t, b, port, plain(all, anna), 60)
		goes(t, b, port, joins4(group4), 60)
		goes(t, b, port, asks4(host4), 60)
		goes(t, b, port, treeSays(root()), 60)
	}
	wants(t, b, group4, 60)
	routers(t, b, 60)
	isRoot(t, b, 60, true)
	goes(t, b, 0, plain(anna, bert), 60, 1)
}

// P23.3: nothing comes of bytes that are no frame, and no station is learnt of them.
func TestTakeOfNoFrame(t *testing.T) {
	b := open(t, silent(2))
	whole := tagged(all, anna, 10)
	wide := plain(all, anna)[:14] + strings.Repeat("x", 2001)
	for _, s := range []string{"", plain(all, anna)[:13], whole[:17], whole[:14] + "\x10\x0a" + whole[16:], whole[:14] + "\x0f\xff" + whole[16:], wide} {
		goes(t, b, 0, s, 60)
	}
	goes(t, b, 1, plain(anna, bert), 60, 0)
	goes(t, b, 0, plain(bert, anna), 60, 1)
	b = open(t, silent(2))
	goes(t, b, 0, plain(all, anna)[:14], 60, 1)
	goes(t, b, 0, wide[:2014], 60, 1)
}

// P23.3: no station is learnt of bytes that are no frame: it would be at port 0, to which nothing goes from there.
func TestNoFrameIsNotLearnt(t *testing.T) {
	b := open(t, silent(3))
	goes(t, b, 0, tagged(all, anna, 10)[:17], 60)
	goes(t, b, 0, plain(anna, bert), 60, 1, 2)
}

// P23.3: the tree hears its messages, with whatever Type; nothing goes out of any, and no station is learnt of them.
func TestTakeOfTreeMessages(t *testing.T) {
	f := treeFrame(root())
	f.Type = 0x0800
	for _, s := range []string{treeSays(root()), bytesOf(f), treeSays(root()) + "and more"} {
		b := open(t, silent(3))
		goes(t, b, 0, s, 60)
		isRoot(t, b, 60, false)
		goes(t, b, 1, plain(anna, bert), 60, 0, 2)
	}
}

// P23.3: the tree hears no other frames, and those to its address go nowhere.
func TestTakeOfNoTreeMessages(t *testing.T) {
	with := treeFrame(root())
	with.Tagged, with.Vlan = true, 10
	without := with
	without.Vlan = 0
	cut := treeFrame(root())
	cut.Data = cut.Data[:38]
	wrong := treeFrame(root())
	wrong.Data = "\x43" + wrong.Data[1:]
	none := treeFrame(root())
	none.Data = ""
	group := api.Frame{Dst: bpdu.To(), Src: anna, Type: 0x0800, Data: joins4(group4)[14:]}
	for _, f := range []api.Frame{with, without, cut, wrong, none, group} {
		b := open(t, silent(3))
		goes(t, b, 0, bytesOf(f), 60)
		isRoot(t, b, 60, true)
		goes(t, b, 1, plain(anna, bert), 60, 0, 2)
		wants(t, b, group4, 60)
	}
	// A message to another address is a frame as any other.
	b := open(t, silent(3))
	f := treeFrame(root())
	f.Dst = "\x01\x80\xc2\x00\x00\x01"
	goes(t, b, 0, bytesOf(f), 60, 1, 2)
	isRoot(t, b, 60, true)
}

// P23.3: what the tree hears shuts ports.
func TestTreeShutsPorts(t *testing.T) {
	b := open(t, silent(3))
	goes(t, b, 0, treeSays(root()), 60)
	m := root()
	m.Vector.Port = 4
	goes(t, b, 1, treeSays(m), 60)
	opens(t, b, 0, 2)
	goes(t, b, 0, plain(all, anna), 60, 2)
	goes(t, b, 1, plain(all, anna), 60)
	// An Alternate port has a role: it hears the tree on.
	m.Vector.Root = 0
	goes(t, b, 1, treeSays(m), 61)
	opens(t, b, 0, 2)
	messages, _ := told(t, b, 62)
	if messages[2].Vector.Root != 0 || len(messages) != 2 {
		t.Errorf("at 62: %v", messages)
	}
}

// mixed is a switch of VLANs 10 and 20: port 0 takes what has no tag for 10, 1 has both with a tag, 2 has 20 alone, 3 drops what has no tag.
func mixed(t *testing.T) *bridge.Bridge {
	t.Helper()
	c := silent(4)
	c.Ports = []api.Port{
		{Default: 10, Tagged: []int{20}, Plain: []int{10}},
		{Default: 20, Tagged: []int{10, 20}},
		{Default: 20, Plain: []int{20}},
		{Tagged: []int{20}, Plain: []int{10}},
	}
	return open(t, c)
}

// comes tells that just these frames must go out of these ports.
func comes(t *testing.T, b *bridge.Bridge, port int, bytes string, want ...api.Out) {
	t.Helper()
	if l := b.Take(port, bytes, 60); !slices.Equal(l, want) {
		t.Errorf("Take of %x by %d: %x, not %x", bytes, port, l, want)
	}
}

// P23.3: frames go out as their VLANs are at the ports, and keep their Prio where there is a tag.
func TestVlans(t *testing.T) {
	b := mixed(t)
	bare := plain(all, anna)
	first := bytesOf(api.Frame{Dst: all, Src: anna, Tagged: true, Vlan: 10, Type: 99, Data: "what is told"})
	comes(t, b, 0, bare, api.Out{Port: 1, Bytes: first}, api.Out{Port: 3, Bytes: bare})
	comes(t, b, 0, tagged(all, anna, 20), api.Out{Port: 1, Bytes: tagged(all, anna, 20)}, api.Out{Port: 2, Bytes: bare}, api.Out{Port: 3, Bytes: tagged(all, anna, 20)})
	comes(t, b, 0, tagged(all, anna, 10), api.Out{Port: 1, Bytes: tagged(all, anna, 10)}, api.Out{Port: 3, Bytes: bare})
	comes(t, b, 0, tagged(all, anna, 0), api.Out{Port: 1, Bytes: tagged(all, anna, 10)}, api.Out{Port: 3, Bytes: bare})
	second := bytesOf(api.Frame{Dst: all, Src: anna, Tagged: true, Vlan: 20, Type: 99, Data: "what is told"})
	comes(t, b, 1, bare, api.Out{Port: 0, Bytes: second}, api.Out{Port: 2, Bytes: bare}, api.Out{Port: 3, Bytes: second})
	comes(t, b, 3, tagged(all, anna, 10), api.Out{Port: 0, Bytes: bare}, api.Out{Port: 1, Bytes: tagged(all, anna, 10)})
}

// P23.3: nothing comes of a frame whose VLAN is not the port's, and no station is learnt of it.
func TestOtherVlans(t *testing.T) {
	b := mixed(t)
	comes(t, b, 2, tagged(all, anna, 10))
	comes(t, b, 0, tagged(all, anna, 30))
	comes(t, b, 0, tagged(all, anna, 4094))
	comes(t, b, 3, plain(all, anna))
	comes(t, b, 3, tagged(all, anna, 0))
	comes(t, b, 2, bytesOf(api.Frame{Dst: to(group4), Src: anna, Tagged: true, Vlan: 10, Type: 0x0800, Data: joins4(group4)[14:]}))
	wants(t, b, group4, 60)
	l := b.Take(1, tagged(anna, bert, 20), 60)
	if !slices.Equal(portsOf(l), []int{0, 2, 3}) {
		t.Errorf("learnt: %v", l)
	}
}

// P23.3: a frame whose Type would be read as a tag does not go out without one.
func TestTypeOfATag(t *testing.T) {
	b := mixed(t)
	s := bytesOf(api.Frame{Dst: all, Src: anna, Tagged: true, Vlan: 20, Type: 0x8100, Data: "what is told"})
	comes(t, b, 0, s, api.Out{Port: 1, Bytes: s}, api.Out{Port: 3, Bytes: s})
}

// P23.3: frames to many stations go to all, to one station where it was heard: at another port, at the same one, nowhere yet.
func TestStations(t *testing.T) {
	b := open(t, silent(4))
	goes(t, b, 0, plain(all, anna), 60, 1, 2, 3)
	goes(t, b, 0, plain(some, anna), 60, 1, 2, 3)
	goes(t, b, 0, plain(bert, anna), 60, 1, 2, 3)
	goes(t, b, 2, plain(anna, bert), 60, 0)
	goes(t, b, 1, plain(bert, cleo), 60, 2)
	goes(t, b, 0, plain(anna, cleo), 60)
	goes(t, b, 0, plain(anna, anna), 60)
	// Cleo is at port 0 now, where it was heard last.
	goes(t, b, 3, plain(cleo, bert), 60, 0)
	goes(t, b, 0, plain(bert, anna), 60, 3)
	goes(t, b, 0, plain("\x00\x00\x00\x00\x00\x00", anna), 60, 1, 2, 3)
}

// P23.3: a frame that says where its own station is goes there alone.
func TestOfItsOwnStation(t *testing.T) {
	b := open(t, silent(3))
	goes(t, b, 1, plain(anna, anna), 60)
	goes(t, b, 2, plain(anna, anna), 61)
	goes(t, b, 0, plain(anna, bert), 61, 2)
}

// P23.3: no station is learnt of many.
func TestManyAreNotLearnt(t *testing.T) {
	b := open(t, silent(3))
	goes(t, b, 0, plain(all, some), 60, 1, 2)
	goes(t, b, 1, plain(some, anna), 60, 0, 2)
}

// P23.3: a station is one of its VLAN.
func TestStationsOfVlans(t *testing.T) {
	b := mixed(t)
	b.Take(0, plain(all, anna), 60)
	if l := b.Take(1, tagged(anna, bert, 10), 60); !slices.Equal(portsOf(l), []int{0}) {
		t.Errorf("of VLAN 10: %v", l)
	}
	if l := b.Take(1, tagged(anna, bert, 20), 60); !slices.Equal(portsOf(l), []int{0, 2, 3}) {
		t.Errorf("of VLAN 20: %v", l)
	}
}

// P23.3: a station is known till Age behind what was heard of it last.
func TestStationsGrowOld(t *testing.T) {
	b := open(t, silent(3))
	goes(t, b, 0, plain(all, anna), 60, 1, 2)
	goes(t, b, 1, plain(anna, bert), 159, 0)
	goes(t, b, 1, plain(anna, bert), 160, 0, 2)
	goes(t, b, 0, plain(all, anna), 160, 1, 2)
	goes(t, b, 1, plain(anna, bert), 259, 0)
}

// P23.3: with room for one station just the last one is known.
func TestRoomForStations(t *testing.T) {
	c := silent(3)
	c.Room = 1
	b := open(t, c)
	goes(t, b, 0, plain(all, anna), 60, 1, 2)
	goes(t, b, 1, plain(all, bert), 61, 0, 2)
	goes(t, b, 1, plain(anna, bert), 62, 0, 2)
	goes(t, b, 0, plain(bert, bert), 63)
	goes(t, b, 2, plain(bert, bert), 64)
}

// P23.3: of a port that learns and does not forward stations are learnt, and nothing goes out, nor in: from 15 behind its coming up.
func TestLearns(t *testing.T) {
	b := open(t, silent(4))
	b.Link(3, true, 45)
	b.Link(2, false, 45)
	b.Link(2, true, 46)
	b.Tick(60)
	opens(t, b, 0, 1, 3)
	for _, s := range []string{plain(all, anna), joins4(group4), asks4(host4), data4(host4, group4)} {
		goes(t, b, 2, s, 60)
	}
	goes(t, b, 0, plain(anna, bert), 60, 1, 3)
	b.Tick(61)
	for _, s := range []string{plain(all, anna), joins4(group4), asks4(host4), data4(host4, local4)} {
		goes(t, b, 2, s, 61)
	}
	wants(t, b, group4, 61)
	routers(t, b, 61)
	// It is known now, and where it is nothing goes.
	goes(t, b, 0, plain(anna, bert), 61)
	goes(t, b, 0, plain(all, bert), 61, 1, 3)
	b.Tick(75)
	goes(t, b, 2, plain(all, cleo), 75)
	b.Tick(76)
	goes(t, b, 2, plain(all, cleo), 76, 0, 1, 3)
}

// P23.3: whenever the tree's change becomes another one, all stations are forgotten at once: by a tick, a link, a message of the tree's.
func TestChangeForgets(t *testing.T) {
	news := root()
	news.Change = true
	for name, change := range map[string]func(b *bridge.Bridge){
		"a tick": func(b *bridge.Bridge) { b.Tick(91) },
		"a link": func(b *bridge.Bridge) { b.Link(0, true, 91) },
		"news":   func(b *bridge.Bridge) { b.Take(3, treeSays(news), 62) },
	} {
		b := open(t, silent(4))
		b.Link(2, false, 60)
		b.Link(2, true, 61)
		goes(t, b, 0, plain(cleo, anna), 62, 1, 3)
		goes(t, b, 1, plain(cleo, bert), 62, 0, 3)
		goes(t, b, 1, plain(anna, bert), 62, 0)
		change(b)
		l := b.Open()
		for i, dst := range []api.Mac{bert, anna} {
			var want []int
			for _, port := range l {
				if port != i {
					want = append(want, port)
				}
			}
			goes(t, b, i, plain(dst, cleo), 92, want...)
		}
		if len(l) < 3 {
			t.Errorf("%s: %v", name, l)
		}
	}
}

// P23.3: what is no change forgets no station: ticks, links that come up, messages of the tree's without news, news once more at the same time.
func TestNoChangeForgetsNothing(t *testing.T) {
	b := open(t, silent(4))
	news := root()
	news.Change = true
	b.Take(3, treeSays(news), 62)
	goes(t, b, 0, plain(all, anna), 62, 1, 2, 3)
	b.Take(3, treeSays(news), 62)
	b.Take(3, treeSays(root()), 63)
	b.Tick(64)
	b.Link(1, true, 64)
	b.Link(2, false, 64)
	goes(t, b, 1, plain(anna, bert), 64, 0)
	b.Take(3, treeSays(news), 65)
	goes(t, b, 1, plain(anna, bert), 65, 0, 3)
}
