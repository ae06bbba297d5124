package bridge_test

import (
	"cmp"
	"math"
	"slices"
	"testing"

	"siphon/api"
	"siphon/bpdu"
	"siphon/bridge"
	"siphon/ether"
	"siphon/fdb"
	"siphon/forward"
	"siphon/group"
	"siphon/igmp"
	"siphon/ipv4"
	"siphon/ipv6"
	"siphon/mld"
	"siphon/octet"
	"siphon/querier"
	"siphon/router"
	"siphon/rstp"
	"siphon/table"
	"siphon/vlan"
)

// model is a switch that goes by the document's words, one by one.
type model struct {
	bridge.Config
	tree      *rstp.Tree
	stations  *fdb.Table
	groups    *table.Table
	routers   *router.Ports
	asks      *querier.Asks
	of4, of6  map[int]*querier.Querier
	changed   int
	forgotten int // how often all stations were
}

func modelOf(c bridge.Config, now int) *model {
	m := &model{Config: c, of4: map[int]*querier.Querier{}, of6: map[int]*querier.Querier{}, changed: -1}
	m.tree, _ = rstp.New(c.Id, c.Costs)
	m.stations, _ = fdb.New(c.Room, c.Age)
	m.groups, _ = table.New(c.Room, group.Times{Member: c.Member, Last: c.Last})
	m.routers, _ = router.New(c.Age)
	m.asks, _ = querier.NewAsks(c.Robust, c.Last)
	for v := 1; v <= api.MaxVlan; v++ {
		if len(vlan.Members(c.Ports, v)) > 0 {
			m.of4[v], _ = querier.New(c.Self4, c.Every, c.Robust, now)
			m.of6[v], _ = querier.New(c.Self6, c.Every, c.Robust, now)
		}
	}
	return m
}

// seeChange is to be called behind each call of the tree's.
func (m *model) seeChange() {
	if m.tree.Changed() != m.changed {
		m.changed = m.tree.Changed()
		m.stations, _ = fdb.New(m.Room, m.Age)
		m.forgotten++
	}
}

func (m *model) open() []int {
	var l []int
	for port := range m.Ports {
		if m.tree.Forwards(port) {
			l = append(l, port)
		}
	}
	return l
}

func (m *model) flood(v, but int) []int {
	l := slices.DeleteFunc(m.open(), func(port int) bool { return port == but || !slices.Contains(vlan.Members(m.Ports, v), port) })
	return l
}

func (m *model) send(f api.Frame, ports []int) []api.Out {
	var l []api.Out
	for _, port := range ports {
		if out, e := vlan.Out(m.Ports, port, f); e == api.OK {
			l = append(l, api.Out{Port: port, Bytes: bytesOf(out)})
		}
	}
	return l
}

func (m *model) link(port int, up bool, now int) {
	if now < 1 || now > lastTime {
		return
	}
	m.tree.Link(port, up, now)
	m.seeChange()
	if !up && port >= 0 && port < len(m.Ports) {
		m.stations.Flush(port)
		m.groups.Drop(port)
		m.routers.Drop(port)
	}
}

func (m *model) take(port int, bytes string, now int) []api.Out {
	if now < 1 || now > lastTime || port < 0 || port >= len(m.Ports) || m.tree.Role(port) == 0 {
		return nil
	}
	f, e := ether.Decode(bytes)
	if e != api.OK {
		return nil
	}
	if f.Dst == "\x01\x80\xc2\x00\x00\x00" {
		if b, e := bpdu.Decode(f.Data); e == api.OK && !f.Tagged {
			m.tree.Hear(port, b, now)
			m.seeChange()
		}
		return nil
	}
	if f, e = vlan.In(m.Ports, port, f); e != api.OK {
		return nil
	}
	if m.tree.Learns(port) {
		m.stations.Learn(f.Vlan, f.Src, port, now)
	}
	if !m.tree.Forwards(port) {
		return nil
	}
	p4, e4 := ipv4.Decode(f.Data)
	p6, e6 := ipv6.Decode(f.Data)
	_, no4 := ether.Group(p4.Dst)
	_, no6 := ether.Group(p6.Dst)
	switch {
	case f.Type == 0x0800 && e4 == api.OK && no4 == api.OK:
		if said, e := igmp.Decode(p4.Data); e == api.OK && p4.Proto == 2 {
			return m.message(port, f, said, p4.Src, said.Version == 3, now)
		}
		return m.data(port, f, p4.Src, p4.Dst, now)
	case f.Type == 0x86dd && e6 == api.OK && no6 == api.OK:
		if said, e := mld.Decode(p6.Src, p6.Dst, p6.Data); e == api.OK && p6.Next == 58 && p6.Hop == 1 && p6.Alert {
			return m.message(port, f, said, p6.Src, said.Version == 2, now)
		}
		return m.data(port, f, p6.Src, p6.Dst, now)
	}
	flood := m.flood(f.Vlan, port)
	if at, known := m.stations.Look(f.Vlan, f.Dst, now); known && !ether.Many(f.Dst) {
		flood = slices.DeleteFunc(flood, func(port int) bool { return port != at })
	}
	return m.send(f, flood)
}

func (m *model) data(port int, f api.Frame, src, dst api.Addr, now int) []api.Out {
	return m.send(f, forward.Decide(forward.Case{
		Port: port, Members: vlan.Members(m.Ports, f.Vlan), Open: m.open(),
		Routers: m.routers.List(f.Vlan, now), Wants: m.groups.Ports(f.Vlan, dst, src, now),
		Local: forward.Local(dst), Over: m.groups.Over(f.Vlan, now), Recovers: m.changed >= 0 && now-m.changed < m.Every,
		Known: m.groups.Known(f.Vlan, dst, now), Flood: m.Flood,
	}))
}

func (m *model) message(port int, f api.Frame, said api.Message, src api.Addr, last bool, now int) []api.Out {
	q := m.of4[f.Vlan]
	if len(src) == 16 {
		q = m.of6[f.Vlan]
	}
	flood := m.flood(f.Vlan, port)
	records := []api.Record{{Kind: api.IsEx, Group: said.Group}}
	switch {
	case said.Kind == api.Query:
		if src != none4 && src != none6 {
			m.routers.Seen(f.Vlan, port, now)
			q.Hear(src, now)
		}
		return m.send(f, flood)
	case said.Kind == api.Leave:
		records[0].Kind = api.ToIn
	case last:
		records = said.Records
	}
	for _, r := range records {
		if forward.Local(r.Group) {
			continue
		}
		ask, e := m.groups.Report(f.Vlan, port, r, now)
		if q.Is(now) && e == api.OK && ask.Group {
			m.asks.Add(querier.Question{Vlan: f.Vlan, Group: r.Group}, now)
		}
		if q.Is(now) && e == api.OK && len(ask.Sources) > 0 {
			m.asks.Add(querier.Question{Vlan: f.Vlan, Group: r.Group, Sources: ask.Sources}, now)
		}
		if m.Fast && r.Kind == api.ToIn && len(r.Sources) == 0 {
			m.groups.Remove(table.Key{Vlan: f.Vlan, Group: r.Group, Port: port})
		}
	}
	l := m.routers.List(f.Vlan, now)
	return m.send(f, slices.DeleteFunc(flood, func(port int) bool { return !slices.Contains(l, port) }))
}

func (m *model) own() api.Mac { return api.Mac("\x02" + octet.Eight(m.Id)[3:]) }

func (m *model) tick(now int) []api.Out {
	if now < 1 || now > lastTime {
		return nil
	}
	m.groups.Expire(now)
	m.stations.Expire(now)
	m.routers.Expire(now)
	var l []api.Out
	told := m.tree.Tick(now)
	m.seeChange()
	for _, o := range told {
		f := treeFrame(o.Bpdu)
		f.Src = m.own()
		l = append(l, api.Out{Port: o.Port, Bytes: bytesOf(f)})
	}
	for v := 1; v <= api.MaxVlan; v++ {
		if m.of4[v].Tick(now) {
			l = append(l, m.query4(v, "", nil)...)
		}
		if m.of6[v].Tick(now) {
			l = append(l, m.query6(v, "", nil)...)
		}
	}
	for _, q := range m.asks.Due(now) {
		if len(q.Group) == 4 && m.of4[q.Vlan].Is(now) {
			l = append(l, m.query4(q.Vlan, q.Group, q.Sources)...)
		}
		if len(q.Group) == 16 && m.of6[q.Vlan].Is(now) {
			l = append(l, m.query6(q.Vlan, q.Group, q.Sources)...)
		}
	}
	return l
}

func (m *model) query4(v int, g api.Addr, sources []api.Addr) []api.Out {
	dst, wait := all4, 100
	if g != "" {
		dst, wait = g, 10
	}
	data := igmpOf(api.Message{Kind: api.Query, Version: 3, Group: g, Max: wait, Robust: m.Robust, Every: 125, Sources: sources})
	packet, _ := ipv4.Encode(api.V4{Ttl: 1, Proto: 2, Src: m.Self4, Dst: dst, Options: "\x94\x04\x00\x00", Data: data})
	return m.send(api.Frame{Dst: to(dst), Src: m.own(), Tagged: true, Vlan: v, Type: 0x0800, Data: packet}, m.flood(v, -1))
}

func (m *model) query6(v int, g api.Addr, sources []api.Addr) []api.Out {
	dst, wait := all6, 1000
	if g != "" {
		dst, wait = g, 100
	}
	data := mldOf(m.Self6, dst, api.Message{Kind: api.Query, Version: 2, Group: g, Max: wait, Robust: m.Robust, Every: 125, Sources: sources})
	packet, _ := ipv6.Encode(api.V6{Hop: 1, Next: 58, Src: m.Self6, Dst: dst, Alert: true, Data: data})
	return m.send(api.Frame{Dst: to(dst), Src: m.own(), Tagged: true, Vlan: v, Type: 0x86dd, Data: packet}, m.flood(v, -1))
}

// dice throw numbers that are the same each time.
type dice struct{ seed uint32 }

func (d *dice) below(n int) int {
	d.seed = d.seed*1664525 + 1013904223
	return int(d.seed>>8) % n
}

func pick[T any](d *dice, l ...T) T { return l[d.below(len(l))] }

// someConfig is one of three or four ports in up to three VLANs.
func someConfig(d *dice) bridge.Config {
	c := config(3 + d.below(2))
	c.Id = pick(d, uint64(7), 0, 0xfedcba9876543210)
	for i := range c.Ports {
		c.Ports[i] = pick(d,
			api.Port{Default: 10, Plain: []int{10}},
			api.Port{Default: 10, Plain: []int{10, 20}},
			api.Port{Default: 20, Tagged: []int{10}, Plain: []int{20}},
			api.Port{Tagged: []int{10, 20}},
			api.Port{Default: 10, Tagged: []int{10}, Plain: []int{5}},
		)
		c.Costs[i] = 1 + d.below(30)
	}
	c.Self4, c.Self6 = pick(d, self4, self4, ""), pick(d, self6, self6, "")
	c.Every, c.Robust, c.Last = pick(d, 4, 20, 50), 1+d.below(3), 1+d.below(4)
	c.Member, c.Age, c.Room = pick(d, 5, 30, 80), pick(d, 5, 40, 100), pick(d, 1, 2, 5, 50)
	c.Flood, c.Fast = d.below(2) == 0, d.below(2) == 0
	return c
}

func someAddrs(d *dice, l ...api.Addr) []api.Addr {
	var some []api.Addr
	for range d.below(4) {
		some = append(some, pick(d, l...))
	}
	return some
}

func someRecords(d *dice, groups []api.Addr, hosts []api.Addr) []api.Record {
	var l []api.Record
	for range d.below(4) {
		l = append(l, api.Record{Kind: 1 + d.below(6), Group: pick(d, groups...), Sources: someAddrs(d, hosts...)})
	}
	return l
}

// someFrame is one of any kind, and now and then none.
func someFrame(d *dice) string {
	groups4, hosts4 := []api.Addr{group4, other4, local4}, []api.Addr{host4, lower4, self4, none4}
	groups6, hosts6 := []api.Addr{group6, all6, "\xff\x0e\x00\x00\x00\x00\x00\x00\x00\x00\x00\x00\x00\x00\x00\x01"}, []api.Addr{host6, lower6, self6, none6}
	g4, h4, g6, h6 := pick(d, groups4...), pick(d, hosts4...), pick(d, groups6...), pick(d, hosts6...)
	macs := []api.Mac{anna, bert, cleo, all, some}
	switch d.below(16) {
	case 0:
		return plain(pick(d, macs...), pick(d, macs...))
	case 1:
		return tagged(pick(d, macs...), pick(d, macs...), pick(d, 0, 5, 10, 20, 30))
	case 2:
		return treeSays(api.Bpdu{Vector: api.Vector{Root: uint64(d.below(9)), Cost: d.below(20), Bridge: uint64(d.below(9)), Port: d.below(3)}, Age: pick(d, 0, 1, 18, 19, 20), Change: d.below(4) == 0})
	case 3, 4:
		return data4(h4, g4)
	case 5, 6:
		return data6(h6, g6)
	case 7:
		return joins4(g4)
	case 8:
		return joins6(g6)
	case 9:
		return leaves4(g4)
	case 10:
		return leaves6(g6)
	case 11, 12:
		return records4(someRecords(d, groups4, hosts4)...)
	case 13, 14:
		return records6(someRecords(d, groups6, hosts6)...)
	}
	return pick(d, asks4(h4), asks6(h6), data4(h4, host4), data6(h6, host6))
}

// broken is a frame with a byte changed, or cut, now and then.
func broken(d *dice, s string) string {
	switch d.below(20) {
	case 0:
		return s[:d.below(len(s))]
	case 1:
		at := d.below(len(s))
		return s[:at] + string([]byte{byte(d.below(256))}) + s[at+1:]
	case 2:
		at := 12 + d.below(3)
		return s[:12] + pick(d, "\x81\x00\x00\x0a", "\x81\x00\xa0\x14", "\x81\x00\x00\x00") + s[at:]
	}
	return s
}

// same tells that a switch must show the same as its model at a time.
func (m *model) same(t *testing.T, b *bridge.Bridge, now int) {
	t.Helper()
	opens(t, b, m.open()...)
	for _, v := range []int{5, 10, 20} {
		if l := b.Routers(v, now); !slices.Equal(l, m.routers.List(v, now)) {
			t.Fatalf("Routers of %d at %d: %v", v, now, l)
		}
		for _, x := range [][2]api.Addr{{group4, host4}, {other4, lower4}, {local4, host4}, {group6, host6}, {group6, lower6}} {
			if l := b.Wants(v, x[0], x[1], now); !slices.Equal(l, m.groups.Ports(v, x[0], x[1], now)) {
				t.Fatalf("Wants of %d, %x, %x at %d: %v", v, x[0], x[1], now, l)
			}
		}
	}
}

// P23.2 to P23.7: whatever comes, the switch does what the document's words say.
func TestAgainstTheModel(t *testing.T) {
	d := &dice{seed: 1}
	var sent, asked, forgotten int
	for range 120 {
		c := someConfig(d)
		now := 1 + d.below(3)
		b, m := made(t, c, now), modelOf(c, now)
		for port := range c.Ports {
			b.Link(port, true, 1)
			m.link(port, true, 1)
		}
		for range 400 {
			at := now
			if d.below(30) == 0 {
				at = pick(d, 0, 1, now/2, now-1, now+1, -1, lastTime+1, math.MinInt, math.MaxInt)
			}
			port := d.below(len(c.Ports))
			if d.below(50) == 0 {
				port = pick(d, -1, len(c.Ports), 16, math.MinInt, math.MaxInt)
			}
			switch x := d.below(12); {
			case x < 4:
				now += pick(d, 0, 1, 1, 1, 2, 6, 15)
				got, want := b.Tick(now), m.tick(now)
				if !slices.Equal(got, want) {
					t.Fatalf("Tick of %d: %x, not %x", now, got, want)
				}
				asked += len(want)
			case x == 4 && d.below(6) == 0:
				up := d.below(3) > 0
				b.Link(port, up, at)
				m.link(port, up, at)
			default:
				bytes := broken(d, someFrame(d))
				got, want := b.Take(port, bytes, at), m.take(port, bytes, at)
				if !slices.Equal(got, want) {
					t.Fatalf("Take of %x by %d at %d: %x, not %x", bytes, port, at, got, want)
				}
				sent += len(want)
			}
			m.same(t, b, at)
		}
		forgotten += m.forgotten
	}
	// It is a test of something only if much comes out.
	if sent < 3000 || asked < 3000 || forgotten < 300 {
		t.Errorf("%d, %d, %d", sent, asked, forgotten)
	}
}

// P23.8: nothing goes out of a port that is not open but the tree's messages, and nothing back to where it came from.
func TestWhatFollows(t *testing.T) {
	d := &dice{seed: 2}
	for range 40 {
		c := someConfig(d)
		b := up(t, c)
		for now := 1; now < 120; now++ {
			for _, o := range b.Tick(now) {
				f, e := ether.Decode(o.Bytes)
				if e != api.OK || f.Dst != bpdu.To() && !slices.Contains(b.Open(), o.Port) {
					t.Fatalf("Tick of %d: %x out of %d", now, o.Bytes, o.Port)
				}
			}
			for range 5 {
				port := d.below(len(c.Ports))
				bytes := broken(d, someFrame(d))
				open := b.Open()
				for _, o := range b.Take(port, bytes, now) {
					if o.Port == port || !slices.Contains(open, o.Port) || !slices.Contains(open, port) {
						t.Fatalf("Take of %x by %d at %d: out of %d", bytes, port, now, o.Port)
					}
				}
			}
			if d.below(40) == 0 {
				b.Link(d.below(len(c.Ports)), d.below(2) == 0, now)
			}
		}
	}
}

// P23.8: a message that cannot be read changes no group.
func TestUnreadChangesNothing(t *testing.T) {
	d := &dice{seed: 3}
	b := asking(t, config(3))
	b.Take(1, joins4(group4), 60)
	b.Take(1, joins6(group6), 60)
	for range 3000 {
		s := pick(d, joins4(other4), leaves4(group4), leaves6(group6), records4(api.Record{Kind: api.ToIn, Group: group4}), records6(api.Record{Kind: api.ToIn, Group: group6}))
		at := 34 + d.below(4) // within the sum, or near it
		if s[12] == 0x86 {
			at = 62 + d.below(4)
		}
		b.Take(1, s[:at]+string([]byte{s[at] ^ byte(1+d.below(255))})+s[at+1:], 60)
	}
	wants(t, b, group4, 60, 1)
	wants(t, b, group6, 60, 1)
	wants(t, b, other4, 60)
	questions(t, b, 60)
	wants(t, b, group4, 109, 1)
	wants(t, b, group6, 109, 1)
}

// R6: the same again, it is the same; two switches know nothing of one another.
func TestSideBySide(t *testing.T) {
	c := config(4)
	a, b := open(t, c), open(t, c)
	a.Take(0, plain(all, anna), 60)
	a.Take(1, joins4(group4), 60)
	a.Take(2, asks4(lower4), 60)
	a.Link(3, false, 60)
	goes(t, b, 1, plain(anna, bert), 60, 0, 2, 3)
	wants(t, b, group4, 60)
	routers(t, b, 60)
	opens(t, b, 0, 1, 2, 3)
	var first []api.Out
	for range 20 {
		b := open(t, c)
		var l []api.Out
		for _, port := range []int{3, 1, 2} {
			b.Take(port, joins4(group4), 60)
			b.Take(port, asks4(host4), 60)
		}
		b.Take(2, records4(api.Record{Kind: api.ToIn, Group: group4}, api.Record{Kind: api.ToIn, Group: other4}), 61)
		l = slices.Concat(b.Take(0, data4(host4, group4), 61), b.Tick(61), b.Tick(76))
		if first == nil {
			first = l
		}
		if slices.CompareFunc(l, first, func(x, y api.Out) int {
			return cmp.Or(cmp.Compare(x.Port, y.Port), cmp.Compare(x.Bytes, y.Bytes))
		}) != 0 {
			t.Errorf("another time: %x, not %x", l, first)
		}
	}
}

// R1: whatever it is given, each call ends.
func TestAnything(t *testing.T) {
	d := &dice{seed: 4}
	for range 200 {
		c := someConfig(d)
		c.Id = uint64(d.below(1 << 20))
		b := open(t, c)
		for range 100 {
			bytes := []byte(someFrame(d))
			for range d.below(6) {
				bytes[d.below(len(bytes))] = byte(d.below(256))
			}
			port := d.below(5) - 1
			now := pick(d, 60, 61, 100, 1, lastTime, 0, math.MinInt, math.MaxInt)
			b.Take(port, string(bytes), now)
			b.Tick(now)
			b.Wants(d.below(30), group4, host4, now)
			b.Routers(d.below(30), now)
		}
	}
}
