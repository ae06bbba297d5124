package bridge_test

import (
	"encoding/hex"
	"slices"
	"strings"
	"testing"

	"siphon/api"
	"siphon/bridge"
	"siphon/ether"
)

// numbered is a config with an Id of eight unlike bytes.
func numbered(ports int) bridge.Config {
	c := config(ports)
	c.Id = 0x0102030405060708
	return c
}

// ticks tells just what must go out at a time: ports, and bytes as hexadecimal numbers.
type out struct {
	port  int
	bytes string
}

func ticks(t *testing.T, b *bridge.Bridge, now int, want ...out) {
	t.Helper()
	l := b.Tick(now)
	for i := range max(len(l), len(want)) {
		switch {
		case i >= len(want):
			t.Errorf("Tick of %d: more: %d, %x", now, l[i].Port, l[i].Bytes)
		case i >= len(l):
			t.Errorf("Tick of %d: not %d, %s", now, want[i].port, want[i].bytes)
		case l[i].Port != want[i].port || hex.EncodeToString([]byte(l[i].Bytes)) != want[i].bytes:
			t.Errorf("Tick of %d: %d, %x, not %d, %s", now, l[i].Port, l[i].Bytes, want[i].port, want[i].bytes)
		}
	}
}

// of are the same bytes out of ports in turn.
func of(bytes string, ports ...int) []out {
	var l []out
	for _, port := range ports {
		l = append(l, out{port, bytes})
	}
	return l
}

// What a switch of that Id sends, byte by byte: the tree's messages, queries of all groups, of one, of one and of sources.
const (
	treeOf0      = "0180c20000000204050607080027424203000002020c010203040506070800000000010203040506070800000000140002000f0000"
	treeOf1      = "0180c20000000204050607080027424203000002020c010203040506070800000000010203040506070800010000140002000f0000"
	learnsOf1    = "0180c20000000204050607080027424203000002021c010203040506070800000000010203040506070800010000140002000f0000"
	forwardsOf1  = "0180c20000000204050607080027424203000002023c010203040506070800000000010203040506070800010000140002000f0000"
	forwardsOf0  = "0180c20000000204050607080027424203000002023c010203040506070800000000010203040506070800000000140002000f0000"
	changeOf1    = "0180c20000000204050607080027424203000002023d010203040506070800000000010203040506070800010000140002000f0000"
	asksAll4     = "01005e0000010204050607080800460000240000000001023ace0a000005e0000001940400001164ec1e00000000027d0000"
	asksAll6     = "33330000000102040506070886dd6000000000240001fe800000000000000000000000000005ff0200000000000000000000000000013a00050200000100820079ba03e8000000000000000000000000000000000000027d0000"
	asksGroup4   = "01005e01020302040506070808004600002400000000010238cb0a000005e001020394040000110a0a74e0010203027d0000"
	asksSources4 = "01005e01020302040506070808004600002c00000000010238c30a000005e001020394040000110af62ee0010203027d00020a0000210a000022"
	asksGroup6   = "33330102030402040506070886dd6000000000240001fe800000000000000000000000000005ff0500000000000000000000010203043a000502000001008200762a00640000ff050000000000000000000001020304027d0000"
	asksSources6 = "33330102030402040506070886dd6000000000340001fe800000000000000000000000000005ff0500000000000000000000010203043a000502000001008200778f00640000ff050000000000000000000001020304027d0001fe800000000000000000000000000009"
)

// P23.6: at even times the tree's messages, of each port, byte by byte.
func TestTickOfTheTree(t *testing.T) {
	c := numbered(2)
	c.Self4, c.Self6 = "", ""
	b := made(t, c, 1)
	ticks(t, b, 2)
	b.Link(0, true, 2)
	b.Link(1, true, 2)
	ticks(t, b, 2, out{0, treeOf0}, out{1, treeOf1})
	ticks(t, b, 3)
	b.Link(0, false, 3)
	ticks(t, b, 16, out{1, treeOf1})
	ticks(t, b, 17)
	ticks(t, b, 18, out{1, learnsOf1})
	ticks(t, b, 31)
	ticks(t, b, 32, out{1, changeOf1})
	ticks(t, b, 34, out{1, changeOf1})
	ticks(t, b, 36, out{1, forwardsOf1})
}

// P23.6: a tree's message has no tag, also where the port is of no VLAN at all.
func TestTickOfTheTreeWithoutVlans(t *testing.T) {
	c := numbered(2)
	c.Ports[0], c.Ports[1] = api.Port{}, api.Port{Tagged: []int{10}}
	b := up(t, c)
	ticks(t, b, 2, out{0, treeOf0}, out{1, treeOf1})
}

// P23.6: what the tree has heard is told on.
func TestTickBehindNews(t *testing.T) {
	b := open(t, silent(2))
	m := root()
	m.Change, m.Age = true, 4
	b.Take(0, treeSays(m), 60)
	messages, _ := told(t, b, 62)
	want := api.Bpdu{Vector: api.Vector{Root: 1, Cost: 10, Bridge: 7, Port: 1}, Age: 5, Change: true, Learn: true, Fwd: true}
	if len(messages) != 1 || messages[1] != want {
		t.Errorf("at 62: %v", messages)
	}
	// What is 6 old is kept no more.
	if messages, _ := told(t, b, 64); messages[1].Change {
		t.Errorf("at 64: %v", messages)
	}
	isRoot(t, b, 66, true)
}

// P23.6: a switch whose Id has other bytes has another address: the lower five count, the others do not.
func TestOwnAddress(t *testing.T) {
	for id, want := range map[uint64]api.Mac{0: "\x02\x00\x00\x00\x00\x00", 7: "\x02\x00\x00\x00\x00\x07", 0xa1a2a3b1b2b3b4b5: "\x02\xb1\xb2\xb3\xb4\xb5", 1 << 40: "\x02\x00\x00\x00\x00\x00"} {
		c := config(2)
		c.Id = id
		b := open(t, c)
		for _, o := range slices.Concat(b.Tick(36), b.Tick(56)) {
			if f, _ := ether.Decode(o.Bytes); f.Src != want {
				t.Errorf("of %x: %x", id, f.Src)
			}
		}
	}
}

// P23.6: queries of all groups, out of all open ports: Robust of them Every / 4 behind one another, then each Every behind, whether anybody hears them or not.
func TestTickAsksAll(t *testing.T) {
	both := slices.Concat(of(asksAll4, 0, 1), of(asksAll6, 0, 1))
	b := up(t, numbered(2))
	for now := 1; now < 31; now += 2 {
		ticks(t, b, now)
	}
	ticks(t, b, 31)
	ticks(t, b, 45)
	ticks(t, b, 47, both...)
	b.Link(0, false, 51)
	ticks(t, b, 65)
	ticks(t, b, 67, out{1, asksAll4}, out{1, asksAll6})
	c := numbered(2)
	c.Robust = 3
	b = up(t, c)
	robust3 := strings.Replace(asksAll4, "1164ec1e00000000027d", "1164eb1e00000000037d", 1)
	c6 := strings.Replace(asksAll6, "820079ba03e8", "820078ba03e8", 1)
	c6 = strings.Replace(c6, "00000000027d", "00000000037d", 1)
	three := slices.Concat(of(robust3, 0, 1), of(c6, 0, 1))
	ticks(t, b, 31, three...)
	ticks(t, b, 35)
	ticks(t, b, 37, three...)
	ticks(t, b, 41)
	ticks(t, b, 43, three...)
	ticks(t, b, 61)
	ticks(t, b, 63, three...)
}

// P23.6: one kind alone, where the switch has no address of the other one.
func TestTickOfOneKind(t *testing.T) {
	c := numbered(2)
	c.Self6 = ""
	ticks(t, up(t, c), 31, of(asksAll4, 0, 1)...)
	c = numbered(2)
	c.Self4 = ""
	ticks(t, up(t, c), 31, of(asksAll6, 0, 1)...)
}

// P23.6: VLAN by VLAN, in each 4 and then 6, with a tag where the VLAN has one at the port.
func TestTickOfVlans(t *testing.T) {
	c := numbered(4)
	c.Ports = []api.Port{
		{Default: 10, Tagged: []int{5}, Plain: []int{10, 300}},
		{Tagged: []int{10, 4094}},
		{Plain: []int{5}},
		{},
	}
	tag := func(bytes, v string) string { return bytes[:24] + "8100" + v + bytes[24:] }
	ticks(t, up(t, c), 31,
		out{0, tag(asksAll4, "0005")}, out{2, asksAll4}, out{0, tag(asksAll6, "0005")}, out{2, asksAll6},
		out{0, asksAll4}, out{1, tag(asksAll4, "000a")}, out{0, asksAll6}, out{1, tag(asksAll6, "000a")},
		out{0, asksAll4}, out{0, asksAll6},
		out{1, tag(asksAll4, "0ffe")}, out{1, tag(asksAll6, "0ffe")},
	)
}

// P23.6: questions that are due go behind all of these, in the order in which they are due; with an even time the tree is ahead.
func TestTickAsksOfGroups(t *testing.T) {
	b := open(t, numbered(2))
	b.Tick(36)
	b.Tick(55)
	ticks(t, b, 56, slices.Concat(of(forwardsOf0, 0), of(forwardsOf1, 1), of(asksAll4, 0, 1), of(asksAll6, 0, 1))...)
	b.Take(1, joins6(group6), 57)
	b.Take(1, records6(api.Record{Kind: api.Allow, Group: group6, Sources: []api.Addr{host6}}), 57)
	b.Take(1, records6(api.Record{Kind: api.ToIn, Group: group6}), 75)
	b.Take(0, joins4(group4), 75)
	b.Take(0, leaves4(group4), 75)
	due := slices.Concat(of(asksGroup6, 0, 1), of(asksSources6, 0, 1), of(asksGroup4, 0, 1))
	ticks(t, b, 76, slices.Concat(of(forwardsOf0, 0), of(forwardsOf1, 1), of(asksAll4, 0, 1), of(asksAll6, 0, 1), due)...)
	ticks(t, b, 77)
	b.Link(0, false, 77)
	ticks(t, b, 79, of(asksGroup6, 1)[0], of(asksSources6, 1)[0], of(asksGroup4, 1)[0])
	ticks(t, b, 83)
}

// P23.6: with its sources, as the state has them.
func TestTickAsksOfSources(t *testing.T) {
	b := open(t, numbered(2))
	b.Tick(36)
	b.Take(0, records4(api.Record{Kind: api.IsIn, Group: group4, Sources: []api.Addr{"\x0a\x00\x00\x22", "\x0a\x00\x00\x21", "\x0a\x00\x00\x23"}}), 40)
	b.Take(0, records4(api.Record{Kind: api.ToIn, Group: group4, Sources: []api.Addr{"\x0a\x00\x00\x23"}}), 41)
	ticks(t, b, 41, of(asksSources4, 0, 1)...)
}

// P23.6: a question out of its VLAN's ports alone; what is due twice at a late time is asked twice.
func TestTickAsksInAVlan(t *testing.T) {
	c := numbered(3)
	c.Ports[2] = api.Port{Default: 20, Plain: []int{20}}
	c.Every = 1000
	b := open(t, c)
	b.Tick(281)
	b.Take(2, joins4(group4), 285)
	b.Take(2, leaves4(group4), 285)
	ticks(t, b, 287, out{2, asksGroup4})
	ticks(t, b, 289, out{2, asksGroup4})
	b.Take(2, joins4(group4), 285)
	b.Take(2, leaves4(group4), 285)
	ticks(t, b, 291, out{2, asksGroup4}, out{2, asksGroup4})
}

// P23.6: where the switch asks no more, a question that is due is not asked, nor later.
func TestTickAsksNoMore(t *testing.T) {
	c := numbered(2)
	c.Every = 1000
	b := open(t, c)
	b.Tick(281)
	for _, s := range []string{joins4(group4), joins6(group6), leaves4(group4), leaves6(group6)} {
		b.Take(0, s, 285)
	}
	b.Take(0, asks4(lower4), 285)
	ticks(t, b, 285, of(asksGroup6, 0, 1)...)
	b.Take(0, asks6(lower6), 285)
	ticks(t, b, 289)
	ticks(t, b, 2289)
	b.Tick(2290)
	ticks(t, b, 2291)
}

// P23.6: queries tell the config's Robust, and 125 whatever its Every is.
func TestTickTellsRobust(t *testing.T) {
	for robust := 1; robust <= 7; robust++ {
		c := config(2)
		c.Robust, c.Every = robust, 4+robust
		_, queries := told(t, up(t, c), 31)
		for i, o := range queries {
			m := messageIn(t, o.Bytes)
			if m.Robust != robust || m.Every != 125 || m.Quiet || m.Kind != api.Query || m.Max != []int{100, 100, 1000, 1000}[i] {
				t.Errorf("of %d: %v", robust, m)
			}
		}
	}
}

// P23.6: a great question, of as many sources as a group may have.
func TestTickAsksOfManySources(t *testing.T) {
	var few, many []api.Addr
	for i := range 60 {
		few = append(few, api.Addr([]byte{10, 0, 1, byte(i)}))
		many = append(many, host6[:15]+api.Addr([]byte{byte(i)}))
	}
	b := open(t, config(2))
	b.Tick(36)
	for _, kind := range []int{api.IsIn, api.ToIn} {
		if kind == api.ToIn {
			b.Take(0, records4(api.Record{Kind: kind, Group: group4}), 40)
			b.Take(0, records6(api.Record{Kind: kind, Group: group6}), 40)
			break
		}
		b.Take(0, records4(api.Record{Kind: kind, Group: group4, Sources: few}), 40)
		b.Take(0, records6(api.Record{Kind: kind, Group: group6, Sources: many}), 40)
	}
	questions(t, b, 41, slices.Concat([]api.Addr{group4}, few, []api.Addr{group6}, many)...)
}

// P23.6: more questions than there is room for are not asked.
func TestTickAsksOfManyGroups(t *testing.T) {
	c := config(1)
	c.Room, c.Every, c.Member, c.Robust = 1000, 1000, 1000, 1
	b := open(t, c)
	for x := range 205 {
		b.Take(0, joins4(api.Addr([]byte{224, 1, 1, byte(x)})), 40)
	}
	for x := range 205 {
		b.Take(0, leaves4(api.Addr([]byte{224, 1, 1, byte(x)})), 41)
	}
	_, queries := told(t, b, 41)
	if len(queries) != 200 {
		t.Errorf("%d are asked", len(queries))
	}
	for x, o := range queries {
		if m := messageIn(t, o.Bytes); m.Group != api.Addr([]byte{224, 1, 1, byte(x)}) {
			t.Errorf("%d: %v", x, m)
		}
	}
}

// P23.6: groups, stations and routers that are old go: what is asked at an earlier time is not known any more, and there is room for others.
func TestTickExpires(t *testing.T) {
	c := silent(3)
	c.Room = 1
	b := open(t, c)
	b.Take(1, asks4(host4), 60)
	b.Take(1, joins4(group4), 60)
	goes(t, b, 1, plain(all, anna), 60, 0, 2)
	b.Tick(109)
	wants(t, b, group4, 60, 1)
	b.Tick(110)
	wants(t, b, group4, 60)
	b.Tick(159)
	routers(t, b, 60, 1)
	goes(t, b, 2, plain(anna, some), 60, 1)
	b.Tick(160)
	routers(t, b, 60)
	goes(t, b, 2, plain(anna, some), 60, 0, 1)
}

// P23.6: where a state is old there is no room till a tick.
func TestTickMakesRoom(t *testing.T) {
	for _, ticked := range []bool{false, true} {
		c := silent(3)
		c.Room = 1
		b := open(t, c)
		b.Take(1, joins4(group4), 60)
		if ticked {
			b.Tick(110)
		}
		b.Take(1, joins4(other4), 110)
		if ticked {
			wants(t, b, other4, 110, 1)
		} else {
			wants(t, b, other4, 110)
		}
	}
}

// P23.6: a tick by which ports come to forward asks out of these, too, and no station is known behind it.
func TestTickOpensAhead(t *testing.T) {
	c := numbered(3)
	c.Self6 = ""
	b := open(t, c)
	b.Link(2, true, 46)
	b.Link(1, false, 47)
	b.Link(1, true, 47)
	b.Tick(36)
	b.Tick(56)
	goes(t, b, 0, plain(all, anna), 70, 2)
	ticks(t, b, 77, of(asksAll4, 0, 1, 2)...)
	goes(t, b, 1, plain(anna, bert), 77, 0, 2)
}

// P23.7: Open, Routers and Wants are the tree's, the routers' and the groups', at any time.
func TestWhatIsTold(t *testing.T) {
	b := open(t, silent(4))
	b.Link(1, false, 32)
	opens(t, b, 0, 2, 3)
	b.Take(3, asks4(host4), 60)
	b.Take(2, asks4(host4), 61)
	b.Take(3, joins4(group4), 60)
	b.Take(2, joins4(group4), 61)
	for _, now := range []int{-1 << 62, -1, 0, 1, 60} {
		routers(t, b, now, 2, 3)
	}
	for _, now := range []int{1, 60, 109} {
		wants(t, b, group4, now, 2, 3)
	}
	wants(t, b, group4, 110, 2)
	wants(t, b, group4, 111)
	wants(t, b, group4, 1<<62)
	routers(t, b, 160, 2)
	routers(t, b, 161)
	routers(t, b, 1<<62)
	for _, v := range []int{-1, 0, 11, 4095} {
		if len(b.Routers(v, 60)) != 0 || len(b.Wants(v, group4, host4, 60)) != 0 {
			t.Errorf("something is known of VLAN %d", v)
		}
	}
	for _, g := range []api.Addr{"", host4, "\xe0\x01\x02", group6} {
		if l := b.Wants(10, g, host4, 60); len(l) != 0 {
			t.Errorf("Wants of %x: %v", g, l)
		}
	}
}

// R5: lists that are told are new, with their room.
func TestListsAreNew(t *testing.T) {
	b := open(t, config(4))
	for port := range 3 {
		b.Take(port, asks4(host4), 60)
		b.Take(port, joins4(group4), 60)
	}
	spoil := func(l []int) {
		l = l[:cap(l)]
		for i := range l {
			l[i] = 99
		}
	}
	for range 2 {
		spoil(b.Open())
		spoil(b.Routers(10, 60))
		spoil(b.Wants(10, group4, host4, 60))
	}
	opens(t, b, 0, 1, 2, 3)
	routers(t, b, 60, 0, 1, 2)
	wants(t, b, group4, 60, 0, 1, 2)
	l := b.Take(0, plain(all, anna), 60)
	clear(l[:cap(l)])
	goes(t, b, 0, plain(all, anna), 60, 1, 2, 3)
}
