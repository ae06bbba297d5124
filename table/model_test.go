package table_test

import (
	"slices"
	"testing"

	"siphon/api"
	"siphon/group"
	"siphon/table"
)

// model is a table that goes by the document's words, one by one, in a list.
type model struct {
	room  int
	times group.Times
	list  []entry
	over  map[int]int
}

type entry struct {
	key   table.Key
	state api.State
}

func (m *model) place(k table.Key) int {
	return slices.IndexFunc(m.list, func(e entry) bool { return e.key == k })
}

func (m *model) report(k table.Key, r api.Record, now int) (group.Ask, api.Errno) {
	place := m.place(k)
	var s api.State
	var is bool
	if place >= 0 {
		s, is = group.Expire(m.list[place].state, now)
	}
	s, is, ask, e := group.Apply(s, is, r, now, m.times)
	switch {
	case e != api.OK:
		return group.Ask{}, e
	case is && place >= 0:
		m.list[place].state = s
	case is && len(m.list) >= m.room:
		m.over[k.Vlan] = now
		return group.Ask{}, api.ErrFull
	case is:
		m.list = append(m.list, entry{k, s})
	case place >= 0:
		m.list = slices.Delete(m.list, place, place+1)
	}
	return ask, api.OK
}

func (m *model) forget(goes func(e entry) bool) int {
	n := len(m.list)
	m.list = slices.DeleteFunc(m.list, goes)
	return n - len(m.list)
}

func (m *model) expire(now int) int {
	n := m.forget(func(e entry) bool { _, is := group.Expire(e.state, now); return !is })
	for i := range m.list {
		m.list[i].state, _ = group.Expire(m.list[i].state, now)
	}
	return n
}

// shows tells that a table must answer as the model does.
func (m *model) shows(t *testing.T, d *table.Table, now int) {
	t.Helper()
	slices.SortFunc(m.list, func(a, b entry) int { return byPlace(a.key, b.key) })
	var keys []table.Key
	for _, e := range m.list {
		keys = append(keys, e.key)
		has(t, d, e.key, e.state)
	}
	holds(t, d, keys...)
	if len(keys) > m.room {
		t.Errorf("%d states, room for %d", len(keys), m.room)
	}
	for v := 1; v <= 3; v++ {
		at, is := m.over[v]
		over(t, d, v, now, is && now < at+m.times.Member)
		for _, g := range []api.Addr{g, h, six} {
			var known bool
			ports := map[api.Addr][]int{}
			for _, e := range m.list {
				if e.key.Vlan != v || e.key.Group != g {
					continue
				}
				_, left := group.Expire(e.state, now)
				known = known || left
				for _, a := range []api.Addr{"a", "b", "x"} {
					if group.Admits(e.state, a, now) {
						ports[a] = append(ports[a], e.key.Port)
					}
				}
			}
			knows(t, d, v, g, now, known)
			for _, a := range []api.Addr{"a", "b", "x"} {
				lets(t, d, v, g, a, now, ports[a]...)
			}
		}
	}
}

// P18.2 to P18.5, R6: whatever is done, in whatever order, the table answers as the model does.
func TestTableAsTheModel(t *testing.T) {
	seed := uint32(18)
	draw := func(n int) int {
		seed = seed*1664525 + 1013904223
		return int(seed>>8) % n
	}
	for range 150 {
		m := &model{room: 1 + draw(9), times: group.Times{Member: 1 + draw(12), Last: 1 + draw(4)}, over: map[int]int{}}
		d, now := timed(t, m.room, m.times), 5
		for range 150 {
			now += draw(3)
			when := max(1, now-draw(4))
			k := key(1+draw(3), []api.Addr{g, h, six}[draw(3)], draw(3)*7)
			switch draw(10) {
			case 0:
				expires(t, d, when, m.expire(when))
			case 1:
				removes(t, d, k, m.forget(func(e entry) bool { return e.key == k }) == 1)
			case 2:
				if draw(4) == 0 {
					drops(t, d, k.Port, m.forget(func(e entry) bool { return e.key.Port == k.Port }))
				}
			default:
				r := api.Record{Kind: draw(20) % 7, Group: k.Group, Sources: []api.Addr{"c", "a", "b", "a"}[draw(4):][:1]}
				if draw(3) == 0 {
					r.Sources = nil
				}
				want, e := m.report(k, r, when)
				if e != api.OK {
					refuses(t, d, k.Vlan, k.Port, r, when, e)
				} else {
					takes(t, d, k.Vlan, k.Port, r, when, want)
				}
			}
			m.shows(t, d, when)
		}
	}
}
