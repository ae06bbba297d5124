package router_test

import "testing"

// model keeps all that was told, in the order in which it came, and goes by the document's words.
type model struct {
	age   int
	fixed [][2]int
	heard [][3]int
}

func (m *model) see(v int, port int, now int) {
	m.forget(func(h [3]int) bool { return h[0] == v && h[1] == port })
	m.heard = append(m.heard, [3]int{v, port, now})
}

func (m *model) list(v int, now int) []int {
	var l []int
	for port := range 16 {
		is := false
		for _, f := range m.fixed {
			is = is || f == [2]int{v, port}
		}
		for _, h := range m.heard {
			is = is || h[0] == v && h[1] == port && h[2]+m.age > now
		}
		if is {
			l = append(l, port)
		}
	}
	return l
}

func (m *model) forget(goes func(h [3]int) bool) int {
	var stay [][3]int
	for _, h := range m.heard {
		if !goes(h) {
			stay = append(stay, h)
		}
	}
	n := len(m.heard) - len(stay)
	m.heard = stay
	return n
}

// P19.2 to P19.5, R6: whatever is done, in whatever order, the ports are as the model has them.
func TestPortsAsTheModel(t *testing.T) {
	seed := uint32(19)
	draw := func(n int) int {
		seed = seed*1664525 + 1013904223
		return int(seed>>8) % n
	}
	for range 200 {
		m := &model{age: 1 + draw(12)}
		p, now := made(t, m.age), 0
		for range 150 {
			now += draw(3)
			when := max(0, now-draw(5))
			v, port := 1+draw(3), draw(16)
			switch draw(16) {
			case 0:
				fixes(t, p, v, port)
				m.fixed = append(m.fixed, [2]int{v, port})
			case 1:
				drops(t, p, port, m.forget(func(h [3]int) bool { return h[1] == port }))
			case 2:
				expires(t, p, when, m.forget(func(h [3]int) bool { return h[2]+m.age <= when }))
			case 3:
				noFix(t, p, 4094+v, port)
				noSeen(t, p, v, 16+port, when)
				noSeen(t, p, v, port, -1-when)
			default:
				sees(t, p, v, port, when)
				m.see(v, port, when)
			}
			for v := 1; v <= 3; v++ {
				lists(t, p, v, now, m.list(v, now)...)
				lists(t, p, v, when, m.list(v, when)...)
			}
		}
	}
}
