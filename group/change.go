package group

import (
	"maps"
	"slices"

	"siphon/api"
	"siphon/filter"
)

// change is a state that becomes another one by a record. Without Except no source is blocked, and at is 0, so that most of what a kind asks for is the same with it and without it.
type change struct {
	except bool
	at     int
	ends   map[api.Addr]int // each source's At
	told   []api.Addr       // the record's sources, rising
	ask    Ask
}

// begin is a state, ahead of what the record's sources make of it.
func begin(s api.State, told []api.Addr) *change {
	c := &change{except: s.Except, at: s.At, ends: map[api.Addr]int{}}
	for _, x := range s.Sources {
		c.ends[x.Source] = x.At
	}
	c.told = filter.Norm(api.Filter{Sources: told}).Sources
	return c
}

// follow does what a record's kind says; what is told anew lasts till end.
func (c *change) follow(kind int, end int) {
	switch kind {
	case api.ToIn:
		c.ask = Ask{Group: c.except, Sources: only(only(c.sources(), c.runs), c.untold)}
		fallthrough
	case api.IsIn, api.Allow:
		c.put(c.told, end)
	case api.ToEx:
		c.exclude(c.at, end)
		c.ask.Sources = only(c.told, c.runs)
	case api.IsEx:
		if c.except {
			c.exclude(end, end)
		} else {
			c.exclude(0, end)
		}
	case api.Block:
		if c.except {
			c.put(only(c.told, c.unknown), c.at)
		}
		c.ask.Sources = only(c.told, c.runs)
	}
}

// exclude lets through all but what is told: what was known of that stays as it is, what was not gets the end fresh.
func (c *change) exclude(fresh int, end int) {
	c.put(only(c.told, c.unknown), fresh)
	for _, a := range only(c.sources(), c.untold) {
		delete(c.ends, a)
	}
	c.except, c.at = true, end
}

// hurry lets what is asked end sooner, if nobody answers.
func (c *change) hurry(end int) {
	for _, a := range c.ask.Sources {
		c.ends[a] = min(c.ends[a], end)
	}
	if c.ask.Group {
		c.at = min(c.at, end)
	}
}

// put sets the end of some sources, be they known or not.
func (c *change) put(l []api.Addr, end int) {
	for _, a := range l {
		c.ends[a] = end
	}
}

// runs, unknown and untold are what is asked of a source.
func (c *change) runs(a api.Addr) bool { return c.ends[a] > 0 }

func (c *change) unknown(a api.Addr) bool {
	_, is := c.ends[a]
	return !is
}

func (c *change) untold(a api.Addr) bool {
	_, is := slices.BinarySearch(c.told, a)
	return !is
}

// sources are all of them, rising.
func (c *change) sources() []api.Addr { return slices.Sorted(maps.Keys(c.ends)) }

// state is what has become.
func (c *change) state() api.State {
	s := api.State{Except: c.except, At: c.at}
	for _, a := range c.sources() {
		s.Sources = append(s.Sources, api.Timed{Source: a, At: c.ends[a]})
	}
	return s
}

// only is a new list of those that stay, in their order.
func only(l []api.Addr, stays func(a api.Addr) bool) []api.Addr {
	var out []api.Addr
	for _, a := range l {
		if stays(a) {
			out = append(out, a)
		}
	}
	return out
}
