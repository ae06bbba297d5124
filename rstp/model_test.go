package rstp_test

import (
	"math"
	"slices"
	"testing"

	"siphon/api"
	"siphon/prio"
	"siphon/rstp"
)

// model is a part that goes by the document's words, one by one.
type model struct {
	bridge uint64
	costs  []int
	time   int
	ups    []bool
	kept   []api.Bpdu
	at     []int // when kept was heard; -1: nothing is kept
	since  []int // -1: not active
	now    state // what was shown when it was set right last
}

func modelOf(bridge uint64, costs []int) *model {
	m := &model{bridge: bridge, costs: costs, now: state{root: prio.Own(bridge), changed: -1}}
	m.ups, m.kept = make([]bool, len(costs)), make([]api.Bpdu, len(costs))
	m.at, m.since = slices.Repeat([]int{-1}, len(costs)), slices.Repeat([]int{-1}, len(costs))
	return m
}

// counts tells whether a call does anything, and lets its time count.
func (m *model) counts(port int, now int, hears bool) bool {
	if now < 0 || now > last || port < 0 || port >= len(m.costs) || hears && !m.ups[port] {
		return false
	}
	m.time = max(m.time, now)
	return true
}

func (m *model) forget() {
	for i := range m.at {
		if m.at[i] >= 0 && (m.time >= m.at[i]+6 || m.kept[i].Age >= 20) {
			m.at[i] = -1
		}
	}
}

func (m *model) set() {
	m.forget()
	l := make([]prio.Heard, len(m.costs))
	for i := range l {
		l[i] = prio.Heard{Is: m.ups[i] && m.at[i] >= 0, Vector: m.kept[i].Vector, Cost: m.costs[i]}
	}
	_, m.now.root = prio.Best(m.bridge, l)
	for i, role := range prio.Roles(m.bridge, l) {
		if !m.ups[i] {
			role = none
		}
		if role != root && role != designated {
			m.since[i] = -1
		} else if m.since[i] < 0 {
			m.since[i] = m.time
		}
		active := m.since[i] >= 0
		forwards := active && m.time >= m.since[i]+30
		if forwards && !m.now.forwards[i] {
			m.now.changed = m.time
		}
		m.now.roles[i], m.now.learns[i], m.now.forwards[i] = role, active && m.time >= m.since[i]+15, forwards
	}
}

func (m *model) link(port int, is bool, now int) {
	if !m.counts(port, now, false) {
		return
	}
	m.ups[port] = is
	if !is {
		m.at[port] = -1
	}
	m.set()
}

func (m *model) hear(port int, b api.Bpdu, now int) {
	if !m.counts(port, now, true) {
		return
	}
	m.forget()
	was := m.kept[port].Vector
	if m.at[port] < 0 || prio.Compare(b.Vector, was) < 1 || b.Vector.Bridge == was.Bridge && b.Vector.Port == was.Port {
		m.kept[port], m.at[port] = b, m.time
		if b.Change && b.Vector.Bridge != m.bridge {
			m.now.changed = m.time
		}
	}
	m.set()
}

func (m *model) tick(now int) []rstp.Out {
	if !m.counts(0, now, false) {
		return nil
	}
	m.set()
	age := 0
	if i := slices.Index(m.now.roles[:], root); i >= 0 {
		age = m.kept[i].Age + 1
	}
	var l []rstp.Out
	for i := range m.costs {
		if now%2 == 0 && age < 20 && m.ups[i] && m.now.roles[i] == designated {
			b := api.Bpdu{Vector: m.now.root, Age: age, Learn: m.now.learns[i], Fwd: m.now.forwards[i]}
			b.Vector.Bridge, b.Vector.Port = m.bridge, i
			b.Change = m.now.changed >= 0 && m.time < m.now.changed+4
			l = append(l, rstp.Out{Port: i, Bpdu: b})
		}
	}
	return l
}

// random answers numbers less than n, the same ones each time.
func random(seed uint32) func(n int) int {
	return func(n int) int {
		seed = seed*1664525 + 1013904223
		return int(seed>>8) % n
	}
}

// P15.2 to P15.6, R6: whatever is done, in whatever order, the part answers as the model does.
func TestPartAsTheModel(t *testing.T) {
	draw := random(15)
	for range 400 {
		bridge, costs := uint64(draw(6)), []int{}
		for range 1 + draw(5) {
			costs = append(costs, []int{1, 1, 2, 3, 10, mostWay}[draw(6)])
		}
		d, m, now := made(t, bridge, costs...), modelOf(bridge, costs), 0
		for range 300 {
			now += []int{0, 0, 0, 1, 1, 2, 3, 5, 12}[draw(9)]
			when, port := max(-1, now-[]int{0, 0, 0, 1, 9}[draw(5)]), draw(len(costs)+2)-1
			if draw(300) == 0 {
				when = []int{-1, last + 1, math.MinInt, math.MaxInt}[draw(4)]
			}
			b := api.Bpdu{Vector: at(uint64(draw(4)), []int{0, 1, 2, 9, -1, 1<<32 - 1, 1 << 32}[draw(7)], uint64(draw(6)), draw(3))}
			b.Age, b.Change, b.Learn, b.Fwd = []int{0, 1, 2, 18, 19, 20, -3}[draw(7)], draw(3) == 0, draw(2) == 0, draw(2) == 0
			switch draw(12) {
			case 0, 1:
				is := draw(4) > 0
				d.Link(port, is, when)
				m.link(port, is, when)
			case 2, 3, 4:
				d.Hear(port, b, when)
				m.hear(port, b, when)
			default:
				tells(t, d, when, m.tick(when)...)
			}
			if s := shown(d); s != m.now {
				t.Fatalf("%v, not %v", s, m.now)
			}
			follows(t, d, len(costs))
		}
	}
}

// P15.6: what follows, at any time.
func follows(t *testing.T, d *rstp.Tree, ports int) {
	t.Helper()
	for i := range ports {
		if r := d.Role(i); d.Forwards(i) && (!d.Learns(i) || r == none || r == alternate) {
			t.Errorf("port %d: role %d, learns %v, forwards %v", i, r, d.Learns(i), d.Forwards(i))
		}
	}
}
