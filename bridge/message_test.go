package bridge_test

import (
	"slices"
	"testing"

	"siphon/api"
	"siphon/bridge"
	"siphon/ether"
	"siphon/igmp"
	"siphon/ipv4"
	"siphon/ipv6"
	"siphon/mld"
)

// asked are what a tick's queries ask, of either kind: a query of all groups has none.
func asked(t *testing.T, b *bridge.Bridge, now int) []api.Message {
	t.Helper()
	_, queries := told(t, b, now)
	var l []api.Message
	last := len(b.Open())
	for i, o := range queries {
		// Each goes out of all ports: it counts once.
		if i%last == 0 {
			l = append(l, messageIn(t, o.Bytes))
		}
	}
	return l
}

// messageIn is what a frame says.
func messageIn(t *testing.T, bytes string) api.Message {
	t.Helper()
	f, _ := ether.Decode(bytes)
	if p, e := ipv4.Decode(f.Data); e == api.OK {
		m, e := igmp.Decode(p.Data)
		if e != api.OK {
			t.Errorf("no message: %x", bytes)
		}
		return m
	}
	p, _ := ipv6.Decode(f.Data)
	m, e := mld.Decode(p.Src, p.Dst, p.Data)
	if e != api.OK {
		t.Errorf("no message: %x", bytes)
	}
	return m
}

// groupsOf are those that are asked, with all their sources.
func groupsOf(l []api.Message) []api.Addr {
	var groups []api.Addr
	for _, m := range l {
		groups = append(groups, m.Group)
		groups = append(groups, m.Sources...)
	}
	return groups
}

// questions tells that just these groups, and sources behind theirs, must be asked at a time at which nothing is asked of all.
func questions(t *testing.T, b *bridge.Bridge, now int, want ...api.Addr) {
	t.Helper()
	if l := groupsOf(asked(t, b, now)); !slices.Equal(l, want) {
		t.Errorf("asked at %d: %x, not %x", now, l, want)
	}
}

// asking is a switch that has asked of all at 31, 36 and 56, and does so again at 76 and 96.
func asking(t *testing.T, c bridge.Config) *bridge.Bridge {
	t.Helper()
	b := open(t, c)
	b.Tick(36)
	b.Tick(56)
	return b
}

// P23.5: where a query comes from there is a router till Age behind; it goes to all.
func TestQueries(t *testing.T) {
	for _, k := range kinds() {
		b := open(t, silent(4))
		goes(t, b, 2, k.asks(k.host), 60, 0, 1, 3)
		routers(t, b, 60, 2)
		goes(t, b, 1, k.asks(k.host), 70, 0, 2, 3)
		routers(t, b, 70, 1, 2)
		routers(t, b, 160, 1)
		routers(t, b, 170)
		if l := b.Routers(11, 70); len(l) != 0 {
			t.Errorf("in VLAN 11: %v", l)
		}
	}
}

// P23.5: of every version, of all groups or one, whoever asks.
func TestQueriesOfEveryVersion(t *testing.T) {
	for _, s := range []string{
		says4(host4, all4, api.Message{Kind: api.Query, Version: 1}),
		says4(host4, group4, api.Message{Kind: api.Query, Version: 2, Max: 10, Group: group4}),
		says4(lower4, all4, api.Message{Kind: api.Query, Version: 3, Max: 100, Robust: 2, Every: 125}),
		says4(self4, group4, api.Message{Kind: api.Query, Version: 3, Group: group4, Sources: []api.Addr{host4}}),
		says4("\x00\x00\x00\x01", all4, api.Message{Kind: api.Query, Version: 1}),
		says6(host6, all6, api.Message{Kind: api.Query, Version: 1, Max: 1000}),
		says6(lower6, all6, api.Message{Kind: api.Query, Version: 2, Max: 1000, Robust: 2, Every: 125}),
		says6(self6, group6, api.Message{Kind: api.Query, Version: 2, Group: group6, Sources: []api.Addr{host6}}),
	} {
		b := open(t, config(3))
		goes(t, b, 1, s, 60, 0, 2)
		routers(t, b, 60, 1)
	}
}

// P23.5: where the one that asks has no address there is no router.
func TestQueriesFromNowhere(t *testing.T) {
	b := asking(t, config(3))
	goes(t, b, 1, asks4(none4), 60, 0, 2)
	goes(t, b, 1, asks6(none6), 60, 0, 2)
	routers(t, b, 60)
	if l := asked(t, b, 76); len(l) != 2 {
		t.Errorf("at 76: %v", l)
	}
}

// P23.5: one with a lesser address asks in the switch's place, of its own kind alone, for Robust times Every and 5; one with a greater one, or the same, does not.
func TestWhoAsks(t *testing.T) {
	for _, x := range []struct {
		frame     string
		of4, of6  bool
		behind106 int
	}{
		{asks4(lower4), false, true, 1},
		{asks4(host4), true, true, 2},
		{asks4(self4), true, true, 2},
		{asks6(lower6), true, false, 1},
		{asks6(host6), true, true, 2},
		{asks6(self6), true, true, 2},
	} {
		b := asking(t, config(3))
		b.Take(1, x.frame, 60)
		var of4, of6 bool
		for _, m := range asked(t, b, 76) {
			of4 = of4 || m.Version == 3
			of6 = of6 || m.Version == 2
		}
		if of4 != x.of4 || of6 != x.of6 {
			t.Errorf("behind %x: %v, %v", x.frame, of4, of6)
		}
		b.Tick(96)
		if l := asked(t, b, 104); len(l) != 0 {
			t.Errorf("at 104: %v", l)
		}
		// The other one asks till 60 + 2 * 20 + 5.
		if l := asked(t, b, 105); len(l) != 2-x.behind106 {
			t.Errorf("at 105 behind %x: %v", x.frame, l)
		}
	}
}

// P23.5: one asks in one VLAN.
func TestWhoAsksInAVlan(t *testing.T) {
	c := config(3)
	c.Self6 = ""
	for i := range c.Ports {
		c.Ports[i].Tagged = []int{20}
	}
	b := asking(t, c)
	b.Take(1, asks4(lower4), 60)
	_, queries := told(t, b, 76)
	for _, o := range queries {
		if f, _ := ether.Decode(o.Bytes); f.Vlan != 20 {
			t.Errorf("at 76: %v", f)
		}
	}
	if len(queries) != 3 {
		t.Errorf("at 76: %v", queries)
	}
}

// P23.5: a report and a leave go to routers alone, whatever they say, and not back.
func TestReportsGoToRouters(t *testing.T) {
	for _, k := range kinds() {
		for _, s := range []string{k.joins(k.group), k.leaves(k.group), k.joins(k.local), k.leaves(k.local)} {
			b := open(t, flooding(5))
			goes(t, b, 0, s, 40)
			b.Take(1, k.asks(k.host), 60)
			b.Take(3, k.asks(k.host), 60)
			goes(t, b, 0, s, 60, 1, 3)
			goes(t, b, 1, s, 60, 3)
			goes(t, b, 0, s, 159, 1, 3)
			goes(t, b, 0, s, 160)
		}
	}
	b := open(t, flooding(3))
	b.Take(1, asks4(host4), 60)
	goes(t, b, 0, records4(), 60, 1)
	goes(t, b, 0, records6(), 60, 1)
	goes(t, b, 0, records4(api.Record{Kind: api.IsIn, Group: local4}), 60, 1)
}

// P23.5: a port that is not open, or no member, is none of them, whether a router was heard there or not.
func TestReportsGoWithinFlood(t *testing.T) {
	b := open(t, silent(4))
	for port := range 4 {
		b.Take(port, asks4(host4), 60)
	}
	m := root()
	b.Take(0, treeSays(m), 60)
	m.Vector.Port = 9
	b.Take(2, treeSays(m), 60)
	routers(t, b, 60, 0, 1, 2, 3)
	goes(t, b, 0, joins4(group4), 60, 1, 3)
}

// P23.5: reports and leaves of every version.
func TestReportsOfEveryVersion(t *testing.T) {
	for _, x := range []struct {
		group         api.Addr
		joins, leaves string
	}{
		{group4, says4(host4, group4, api.Message{Kind: api.Report, Version: 1, Group: group4}), leaves4(group4)},
		{group4, joins4(group4), says4(host4, "\xe0\x00\x00\x02", api.Message{Kind: api.Leave, Version: 2, Group: group4})},
		{group4, records4(api.Record{Kind: api.IsEx, Group: group4}), records4(api.Record{Kind: api.ToIn, Group: group4})},
		{group4, records4(api.Record{Kind: api.ToEx, Group: group4}), leaves4(group4)},
		{group6, joins6(group6), leaves6(group6)},
		{group6, records6(api.Record{Kind: api.IsEx, Group: group6}), records6(api.Record{Kind: api.ToIn, Group: group6})},
		{group6, records6(api.Record{Kind: api.ToEx, Group: group6}), leaves6(group6)},
	} {
		b := asking(t, config(3))
		b.Take(1, x.joins, 60)
		wants(t, b, x.group, 109, 1)
		wants(t, b, x.group, 110)
		b.Take(1, x.leaves, 65)
		wants(t, b, x.group, 67, 1)
		wants(t, b, x.group, 68)
		questions(t, b, 65, x.group)
		questions(t, b, 68, x.group)
		questions(t, b, 71)
	}
}

// P23.5: a report by itself says that all sources are wanted, and asks nothing, though some were wanted alone.
func TestReportIsIsEx(t *testing.T) {
	b := asking(t, config(3))
	b.Take(1, records4(api.Record{Kind: api.IsIn, Group: group4, Sources: []api.Addr{lower4}}), 60)
	wantsFrom(t, b, group4, lower4, 60, 1)
	wantsFrom(t, b, group4, host4, 60)
	b.Take(1, joins4(group4), 60)
	wantsFrom(t, b, group4, host4, 60, 1)
	questions(t, b, 61)
	// ToEx would let this one go at 63.
	b.Take(1, records4(api.Record{Kind: api.IsEx, Group: group4, Sources: []api.Addr{host4}}), 62)
	wantsFrom(t, b, group4, lower4, 70, 1)
}

// P23.5: records go in turn, each with its sources, at the port by which they came; of groups that are local none does.
func TestRecordsInTurn(t *testing.T) {
	b := open(t, silent(3))
	b.Take(1, records4(
		api.Record{Kind: api.IsEx, Group: local4},
		api.Record{Kind: api.IsEx, Group: group4},
		api.Record{Kind: api.Block, Group: group4, Sources: []api.Addr{host4}},
		api.Record{Kind: api.Allow, Group: other4, Sources: []api.Addr{host4}},
		api.Record{Kind: api.IsIn, Group: "\xe0\x00\x01\x05", Sources: []api.Addr{host4}},
	), 60)
	wants(t, b, local4, 60)
	wants(t, b, group4, 60, 1)
	wants(t, b, other4, 60, 1)
	wants(t, b, "\xe0\x00\x01\x05", 60, 1)
	wantsFrom(t, b, other4, lower4, 60)
	b.Take(2, records4(api.Record{Kind: api.Allow, Group: group4, Sources: []api.Addr{lower4}}, api.Record{Kind: api.IsEx, Group: group4, Sources: []api.Addr{lower4}}), 60)
	wantsFrom(t, b, group4, lower4, 60, 1, 2)
	b.Take(2, records4(api.Record{Kind: api.IsEx, Group: other4, Sources: []api.Addr{lower4}}, api.Record{Kind: api.Allow, Group: other4, Sources: []api.Addr{host4}}), 60)
	wantsFrom(t, b, other4, lower4, 60)
	wantsFrom(t, b, other4, host4, 60, 1, 2)
	b.Take(1, records6(api.Record{Kind: api.IsEx, Group: all6}, api.Record{Kind: api.IsEx, Group: group6}), 60)
	wants(t, b, all6, 60)
	wants(t, b, group6, 60, 1)
}

// P23.5: what one group's record finds full is no end of the others.
func TestRecordsWhereATableIsFull(t *testing.T) {
	c := silent(3)
	c.Room = 1
	b := open(t, c)
	b.Take(1, joins4(group4), 60)
	b.Take(1, records4(api.Record{Kind: api.IsEx, Group: other4}, api.Record{Kind: api.IsEx, Group: group4}), 90)
	wants(t, b, other4, 90)
	wants(t, b, group4, 139, 1)
	// A local group takes no room.
	b = open(t, c)
	b.Take(1, joins4(local4), 60)
	b.Take(1, joins4(group4), 60)
	wants(t, b, group4, 60, 1)
	goes(t, b, 0, data4(host4, other4), 60)
}

// P23.5: groups are those of the frame's VLAN.
func TestReportsInVlans(t *testing.T) {
	b := mixed(t)
	b.Take(2, joins4(group4), 60)
	b.Take(3, bytesOf(api.Frame{Dst: to(group4), Src: anna, Tagged: true, Vlan: 10, Type: 0x0800, Data: joins4(group4)[14:]}), 60)
	wants(t, b, group4, 60, 3)
	if l := b.Wants(20, group4, host4, 60); !slices.Equal(l, []int{2}) {
		t.Errorf("in VLAN 20: %v", l)
	}
}

// P23.5: where the switch asks, sources are asked too, behind the group.
func TestQuestionsOfSources(t *testing.T) {
	first, second := api.Addr("\x0a\x00\x00\x21"), api.Addr("\x0a\x00\x00\x22")
	b := asking(t, config(3))
	b.Take(1, records4(api.Record{Kind: api.IsIn, Group: group4, Sources: []api.Addr{first, second}}), 60)
	questions(t, b, 60)
	// Of these two one is asked, the group is not: it has no others.
	b.Take(1, records4(api.Record{Kind: api.ToIn, Group: group4, Sources: []api.Addr{first}}), 61)
	questions(t, b, 61, group4, second)
	questions(t, b, 63)
	questions(t, b, 64, group4, second)
	b.Take(1, records4(api.Record{Kind: api.Block, Group: group4, Sources: []api.Addr{first}}), 66)
	questions(t, b, 66, group4, first)
	questions(t, b, 69, group4, first)
	b = asking(t, config(3))
	b.Take(1, records4(api.Record{Kind: api.IsEx, Group: group4}, api.Record{Kind: api.Allow, Group: group4, Sources: []api.Addr{first, second}}), 60)
	b.Take(1, records4(api.Record{Kind: api.ToIn, Group: group4, Sources: []api.Addr{first}}), 61)
	questions(t, b, 61, group4, group4, second)
	questions(t, b, 64, group4, group4, second)
	questions(t, b, 67)
}

func TestQuestionsOfSourcesOf6(t *testing.T) {
	b := asking(t, config(3))
	b.Take(1, records6(api.Record{Kind: api.IsEx, Group: group6}, api.Record{Kind: api.Allow, Group: group6, Sources: []api.Addr{host6}}), 60)
	b.Take(1, records6(api.Record{Kind: api.ToIn, Group: group6}), 61)
	questions(t, b, 61, group6, group6, host6)
	questions(t, b, 64, group6, group6, host6)
	questions(t, b, 67)
}

// P23.5: where it does not ask, no question is added, though it asks again later; nor is one of a local group, or where nothing was known.
func TestNoQuestions(t *testing.T) {
	for _, k := range kinds() {
		b := asking(t, silent(3))
		b.Take(1, k.joins(k.group), 60)
		b.Take(1, k.leaves(k.group), 61)
		questions(t, b, 61)
		c := config(3)
		c.Robust, c.Every = 1, 30
		b = open(t, c)
		b.Take(1, k.joins(k.group), 60)
		lower := map[string]api.Addr{"4": lower4, "6": lower6}[k.name]
		b.Take(2, k.asks(lower), 60)
		b.Take(1, k.leaves(k.group), 94)
		b.Tick(94)
		if l := asked(t, b, 95); slices.Contains(groupsOf(l), k.group) {
			t.Errorf("at 95: %v", l)
		}
		b = asking(t, config(3))
		b.Take(1, k.leaves(k.group), 60)
		b.Take(1, k.joins(k.local), 60)
		b.Take(1, k.leaves(k.local), 60)
		questions(t, b, 60)
	}
}

// P23.5: the querier of the message's kind is asked, not the other one.
func TestQuestionsOfEachKind(t *testing.T) {
	for _, k := range kinds() {
		c := config(3)
		if k.name == "4" {
			c.Self6 = ""
		} else {
			c.Self4 = ""
		}
		b := asking(t, c)
		for _, l := range kinds() {
			b.Take(1, l.joins(l.group), 60)
			b.Take(1, l.leaves(l.group), 60)
		}
		questions(t, b, 60, k.group)
		questions(t, b, 63, k.group)
	}
}

// P23.5: a Fast switch forgets who leaves at once, at that port alone, and asks all the same.
func TestFast(t *testing.T) {
	for _, k := range kinds() {
		for _, fast := range []bool{true, false} {
			c := config(3)
			c.Fast = fast
			b := asking(t, c)
			for port := range 2 {
				b.Take(port, k.joins(k.group), 60)
				b.Take(port, k.joins(k.other), 60)
			}
			b.Take(1, k.leaves(k.group), 60)
			if fast {
				wants(t, b, k.group, 60, 0)
			} else {
				wants(t, b, k.group, 60, 0, 1)
			}
			wants(t, b, k.other, 60, 0, 1)
			questions(t, b, 60, k.group)
			questions(t, b, 63, k.group)
			wants(t, b, k.group, 63, 0)
		}
	}
}

// P23.5: just a ToIn without sources is such a leave, whether the switch asks or not; records behind it count.
func TestFastRecords(t *testing.T) {
	few := []api.Addr{lower4}
	for _, x := range []struct {
		name    string
		records []api.Record
		stays   bool
	}{
		{"ToIn", []api.Record{{Kind: api.ToIn, Group: group4}}, false},
		{"ToIn with sources", []api.Record{{Kind: api.ToIn, Group: group4, Sources: few}}, true},
		{"IsIn", []api.Record{{Kind: api.IsIn, Group: group4}}, true},
		{"Allow", []api.Record{{Kind: api.Allow, Group: group4}}, true},
		{"Block", []api.Record{{Kind: api.Block, Group: group4}}, true},
		{"ToEx", []api.Record{{Kind: api.ToEx, Group: group4}}, true},
		{"another group", []api.Record{{Kind: api.ToIn, Group: other4}}, true},
		{"and back", []api.Record{{Kind: api.ToIn, Group: group4}, {Kind: api.IsEx, Group: group4}}, true},
		{"twice", []api.Record{{Kind: api.IsEx, Group: group4}, {Kind: api.ToIn, Group: group4}}, false},
	} {
		for _, c := range []bridge.Config{silent(3), config(3)} {
			c.Fast = true
			b := open(t, c)
			b.Take(1, joins4(group4), 60)
			b.Take(1, records4(x.records...), 60)
			if x.stays {
				wants(t, b, group4, 60, 1)
			} else {
				wants(t, b, group4, 60)
			}
		}
	}
}

// P23.5: what is removed makes room at once.
func TestFastMakesRoom(t *testing.T) {
	for _, fast := range []bool{true, false} {
		c := silent(3)
		c.Room, c.Fast = 1, fast
		b := open(t, c)
		b.Take(1, joins4(group4), 60)
		b.Take(1, leaves4(group4), 60)
		b.Take(1, joins4(other4), 60)
		if fast {
			wants(t, b, other4, 60, 1)
		} else {
			wants(t, b, other4, 60)
		}
	}
}

// Examples 4 and 5 of the whole: who reports is told, till Last behind its leave.
func TestMembersComeAndGo(t *testing.T) {
	b := asking(t, config(4))
	b.Take(3, asks4(host4), 60)
	goes(t, b, 2, joins4(group4), 60, 3)
	goes(t, b, 0, data4(host4, group4), 61, 2, 3)
	goes(t, b, 2, leaves4(group4), 62, 3)
	goes(t, b, 0, data4(host4, group4), 64, 2, 3)
	goes(t, b, 0, data4(host4, group4), 65, 3)
}

// R5: of a frame that is handed in nothing is kept as it lies.
func TestFramesAreNotKept(t *testing.T) {
	b := asking(t, config(3))
	for _, s := range []string{
		plain(all, anna), joins4(group4), joins6(group6), asks4(lower4),
		records4(api.Record{Kind: api.IsIn, Group: other4, Sources: []api.Addr{host4, lower4}}),
		records4(api.Record{Kind: api.ToIn, Group: other4, Sources: []api.Addr{host4}}),
	} {
		bytes := []byte(s)
		b.Take(1, string(textOf(bytes)), 60)
		for i := range bytes {
			bytes[i] = 0xee
		}
	}
	wants(t, b, group4, 60, 1)
	wants(t, b, group6, 60, 1)
	wants(t, b, other4, 60, 1)
	goes(t, b, 0, plain(anna, bert), 60, 1)
}

// R5: what goes out does not lie where the frame did.
func TestWhatGoesOutIsNew(t *testing.T) {
	b := open(t, silent(3))
	bytes := []byte(plain(all, anna))
	l := b.Take(0, string(textOf(bytes)), 60)
	bytes[0] = 0
	for _, o := range l {
		if o.Bytes != plain(all, anna) {
			t.Errorf("out of %d: %x", o.Port, o.Bytes)
		}
	}
}
