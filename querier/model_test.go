package querier_test

import (
	"slices"
	"testing"

	"siphon/api"
)

// model is a querier that goes by the document's words: self is 5, and who is heard is told by a number.
type model struct {
	every, robust, until, next, asked int
}

func (m *model) hear(src int, now int) bool {
	if now < 0 || now > last || src == 0 || src >= 5 {
		return false
	}
	if until := now + m.robust*m.every + 5; until > m.until {
		m.until = until
	}
	return true
}

func (m *model) tick(now int) bool {
	switch {
	case now < 0 || now > last:
		return false
	case m.until > now:
		m.next, m.asked = m.until, 0
		return false
	case now < m.next:
		return false
	}
	m.asked++
	m.next = now + m.every
	if m.asked < m.robust {
		m.next = now + m.every/4
	}
	return true
}

// draws are numbers below n that come the same each time.
func draws(seed uint32) func(n int) int {
	return func(n int) int {
		seed = seed*1664525 + 1013904223
		return int(seed>>8) % n
	}
}

// P20.2, P20.3, R6: whatever is heard, it asks as the model does.
func TestQuerierAsTheModel(t *testing.T) {
	draw := draws(20)
	for range 300 {
		m := &model{every: 4 + draw(30), robust: 1 + draw(7), next: draw(20)}
		q, now := made(t, "\x00\x00\x00\x05", m.every, m.robust, m.next), 0
		for range 200 {
			now += draw(4)
			when := now - draw(5)*draw(3)
			if draw(60) == 0 {
				src := draw(8)
				believes(t, q, api.Addr([]byte{0, 0, 0, byte(src)}), when, m.hear(src, when))
			}
			if draw(3) > 0 {
				if got, want := q.Tick(when), m.tick(when); got != want {
					t.Errorf("Tick of %d: %v", when, got)
				}
			}
			if got, want := q.Is(when), m.until <= when; got != want {
				t.Errorf("Is of %d: %v", when, got)
			}
		}
	}
}

// wait is a question that waits for a time, in the order in which it came to wait.
type wait struct {
	vlan, at, left, came int
}

// P20.4, P20.5, R6: whatever is added, it is told as in a list out of which the first is taken again and again.
func TestAsksAsAList(t *testing.T) {
	draw := draws(21)
	for range 300 {
		count, gap := 1+draw(7), 1+draw(6)
		a, now, came := many(t, count, gap), 10, 0
		var list []wait
		told := map[int]int{}
		for v := range 100 {
			now += draw(3)
			when := now + draw(9) - 4
			for range draw(3) {
				adds(t, a, about(v), when)
				list = append(list, wait{v, when, count, came})
				came++
				told[v] -= count
			}
			if draw(3) > 0 {
				continue
			}
			var want []int
			for {
				slices.SortFunc(list, func(a, b wait) int {
					if a.at != b.at {
						return a.at - b.at
					}
					return a.came - b.came
				})
				if len(list) == 0 || list[0].at > now {
					break
				}
				w := list[0]
				list = list[1:]
				want = append(want, w.vlan)
				told[w.vlan]++
				if w.left > 1 {
					list = append(list, wait{w.vlan, w.at + gap, w.left - 1, came})
					came++
				}
			}
			tells(t, a, now, want...)
			counts(t, a, len(list))
		}
		for _, q := range a.Due(now + 1000) {
			told[q.Vlan]++
		}
		for v, n := range told {
			if n != 0 {
				t.Errorf("VLAN %d: told %d more than %d times each", v, n, count)
			}
		}
		counts(t, a, 0)
	}
}
