package proxy_test

import (
	"slices"
	"testing"

	"siphon/api"
	"siphon/filter"
	"siphon/proxy"
)

// model is what was told, in a list, by the document's words; and what one who heard all records that were answered makes of them.
type model struct {
	room  int
	told  []entry
	heard []entry
}

type entry struct {
	vlan  int
	group api.Addr
	f     api.Filter
}

// find is the entry of a group, a new one of nothing where there is none.
func find(l *[]entry, v int, g api.Addr) *entry {
	i := slices.IndexFunc(*l, func(e entry) bool { return e.vlan == v && e.group == g })
	if i < 0 {
		i = len(*l)
		*l = append(*l, entry{vlan: v, group: g})
	}
	return &(*l)[i]
}

func admitsAny(f api.Filter) bool { return f.Except || len(f.Sources) > 0 }

// full tells whether there is no room for one more, beside those of which something is told.
func (m *model) full(v int, g api.Addr) bool {
	others := 0
	for _, e := range m.told {
		if admitsAny(e.f) && (e.vlan != v || e.group != g) {
			others++
		}
	}
	return others >= m.room && !admitsAny(find(&m.told, v, g).f)
}

// hear is what a listener has, who had f and hears the records.
func hear(f api.Filter, l []api.Record) api.Filter {
	for _, r := range l {
		switch r.Kind {
		case api.ToIn:
			f = some(r.Sources...)
		case api.ToEx:
			f = but(r.Sources...)
		case api.Allow:
			f = filter.Or(f, some(r.Sources...))
		case api.Block:
			f = filter.And(f, but(r.Sources...))
		}
	}
	return f
}

// all are the records of the whole that a list of entries comes to, in a VLAN, and forget leaves nothing of them.
func all(l []entry, v int) []api.Record {
	var out []api.Record
	for _, e := range l {
		if e.vlan == v && admitsAny(e.f) {
			r := record(api.IsIn, e.group, rising(e.f.Sources)...)
			if e.f.Except {
				r.Kind = api.IsEx
			}
			out = append(out, r)
		}
	}
	slices.SortFunc(out, func(a, b api.Record) int {
		if a.Group < b.Group {
			return -1
		}
		return 1
	})
	return out
}

func forget(l []entry, v int) []entry {
	return slices.DeleteFunc(slices.Clone(l), func(e entry) bool { return e.vlan == v })
}

// P21.3 to P21.5, R6: whatever is told and forgotten, in whatever order, the proxy answers as the model does, and who heard all its records has what All tells.
func TestProxyAsTheModel(t *testing.T) {
	seed := uint32(21)
	draw := func(n int) int {
		seed = seed*1664525 + 1013904223
		return int(seed>>8) % n
	}
	for range 200 {
		m := &model{room: 1 + draw(9)}
		p := made(t, m.room)
		for range 150 {
			v, g := 1+draw(3), []api.Addr{g, h, six, "\xe0\x01\x02\x04"}[draw(4)]
			f := api.Filter{Except: draw(2) == 0}
			for range draw(4) {
				f.Sources = append(f.Sources, []api.Addr{"a", "b", "c", "\x0a\x00\x00\x01"}[draw(4)])
			}
			switch {
			case draw(15) == 0:
				forgets(t, p, v, len(all(m.told, v)))
				m.told, m.heard = forget(m.told, v), forget(m.heard, v)
			case draw(5) == 0:
				tellsAsTheModel(t, p, m, v, g, some())
			default:
				tellsAsTheModel(t, p, m, v, g, f)
			}
			for v := 1; v <= 3; v++ {
				holds(t, p, v, all(m.told, v)...)
				holds(t, p, v, all(m.heard, v)...)
			}
			if n := len(p.All(1)) + len(p.All(2)) + len(p.All(3)); n > m.room {
				t.Errorf("%d are told, room for %d", n, m.room)
			}
		}
	}
}

// tellsAsTheModel tells a group's filter to both.
func tellsAsTheModel(t *testing.T, p *proxy.Proxy, m *model, v int, g api.Addr, f api.Filter) {
	t.Helper()
	if admitsAny(f) && m.full(v, g) {
		refuses(t, p, v, g, f, api.ErrFull)
		return
	}
	was := find(&m.told, v, g)
	l, e := p.Tell(v, g, f)
	if e != api.OK || !same(l, filter.Diff(g, was.f, f)) {
		t.Errorf("Tell of %d, %x, %v behind %v: %v, %d", v, g, f, was.f, l, e)
	}
	was.f = f
	has := find(&m.heard, v, g)
	has.f = hear(has.f, l)
}
