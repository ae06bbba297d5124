package table

import (
	"cmp"
	"iter"
	"maps"
	"slices"

	"siphon/api"
)

// keys yields those of all states in their order. They are gathered first, so that states may go on the way.
func (t *Table) keys() iter.Seq[Key] {
	return func(yield func(Key) bool) {
		if t == nil {
			return
		}
		for _, k := range slices.SortedFunc(maps.Keys(t.states), byPlace) {
			if !yield(k) {
				return
			}
		}
	}
}

// ofGroup yields those of a group in a VLAN, by their ports.
func (t *Table) ofGroup(v int, g api.Addr) iter.Seq[Key] {
	return func(yield func(Key) bool) {
		if t == nil {
			return
		}
		for port := range api.MaxPorts {
			k := Key{Vlan: v, Group: g, Port: port}
			if _, is := t.states[k]; is && !yield(k) {
				return
			}
		}
	}
}

// byPlace is the order of keys.
func byPlace(a, b Key) int {
	return cmp.Or(cmp.Compare(a.Vlan, b.Vlan), cmp.Compare(a.Group, b.Group), cmp.Compare(a.Port, b.Port))
}
