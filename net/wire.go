package net

import "siphon/bridge"

// end is where a wire ends: a port of a switch.
type end struct {
	number int
	port   int
}

// wire is one of a net's.
type wire struct {
	ends [2]end // at A, at B
	up   bool
}

func (w Wire) ends() [2]end {
	return [2]end{{number: w.A, port: w.PortA}, {number: w.B, port: w.PortB}}
}

// wiresMayBe tells whether wires may join these switches.
func wiresMayBe(l []bridge.Config, wires []Wire) bool {
	if len(wires) > mostWires {
		return false
	}
	var used []end
	for _, w := range wires {
		for _, e := range w.ends() {
			if !e.isOf(l) || e.isIn(used) {
				return false
			}
			used = append(used, e)
		}
	}
	return true
}

// isOf tells whether there is such a switch, with such a port.
func (e end) isOf(l []bridge.Config) bool {
	if e.number < 0 || e.number >= len(l) {
		return false
	}
	return 0 <= e.port && e.port < len(l[e.number].Ports)
}

func (e end) isIn(l []end) bool {
	for _, other := range l {
		if e == other {
			return true
		}
	}
	return false
}

// far is the end to which a wire leads from a port, whether there is a wire, and whether it is up.
func (n *Net) far(near end) (to end, wired bool, up bool) {
	for _, w := range n.wires {
		switch {
		case w.ends[0] == near:
			return w.ends[1], true, w.up
		case w.ends[1] == near:
			return w.ends[0], true, w.up
		}
	}
	return end{}, false, false
}
