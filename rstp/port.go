package rstp

import (
	"siphon/api"
	"siphon/prio"
)

// port is one of a part's.
type port struct {
	cost     int
	up       bool
	kept     *message // nil: none
	role     int
	since    int // when it became active, if it is
	learns   bool
	forwards bool
}

// message is what a port keeps of one.
type message struct {
	vector api.Vector
	age    int
	at     int
}

func (m *message) old(time int) bool {
	return time-m.at >= oldBehind || m.age >= api.MaxHops
}

// takes tells whether a message with that vector is kept instead of what is kept: who told that may take it back.
func (p *port) takes(v api.Vector) bool {
	if p.kept == nil {
		return true
	}
	was := p.kept.vector
	return prio.Compare(v, was) <= 0 || v.Bridge == was.Bridge && v.Port == was.Port
}

// heard is what counts for the port's role.
func (p *port) heard() prio.Heard {
	if p.kept == nil {
		return prio.Heard{Cost: p.cost}
	}
	return prio.Heard{Is: true, Vector: p.kept.vector, Cost: p.cost}
}

// play gives a port the role that it would have if it were up.
func (p *port) play(role int, time int) {
	if !p.up {
		role = prio.None
	}
	if active(role) && !active(p.role) {
		p.since = time
	}
	p.role = role
	p.learns = active(role) && time-p.since >= learnsBehind
	p.forwards = active(role) && time-p.since >= forwardsBehind
}

func active(role int) bool { return role == prio.Root || role == prio.Designated }
