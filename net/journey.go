package net

import "siphon/api"

// frame is one that travels.
type frame struct {
	to    end
	bytes string
}

// journey is all that comes of one call, at one time.
type journey struct {
	net   *Net
	now   int
	ahead chan frame // those that travel, in the order in which they were sent
	left  int        // how many may set out yet
	told  []Delivery
}

func (n *Net) journey(now int) *journey {
	return &journey{net: n, now: now, ahead: make(chan frame, api.MaxEvents), left: api.MaxEvents}
}

// send lets go what a switch sends. As frames are taken in the order in which they set out, those that come behind the last one that may be taken are lost here already; so there is room for each that is not.
func (j *journey) send(s int, l []api.Out) {
	for _, out := range l {
		to, wired, up := j.net.far(end{number: s, port: out.Port})
		switch {
		case !wired:
			j.told = append(j.told, Delivery{Switch: s, Port: out.Port, Bytes: out.Bytes})
		case up && j.left > 0:
			j.left--
			j.ahead <- frame{to: to, bytes: out.Bytes}
		}
	}
}

// travel takes frame by frame, till none is on its way: what was delivered.
func (j *journey) travel() []Delivery {
along:
	for {
		select {
		case f := <-j.ahead:
			j.send(f.to.number, j.net.switches[f.to.number].Take(f.to.port, f.bytes, j.now))
		default:
			break along
		}
	}
	return j.told
}
