package querier

import (
	"siphon/api"
	"siphon/wheel"
)

const (
	mostAsks  = 200
	mostCount = 7
	longGap   = 1000
)

// Question is what is asked of a group.
type Question struct {
	Vlan    int
	Group   api.Addr
	Sources []api.Addr
}

// Asks are questions that are asked some times.
type Asks struct {
	count  int
	gap    int
	added  int // how many were: each question's key is its number among them
	timers *wheel.Wheel[int]
	kept   map[int]waiting
}

// waiting is a question, and how often it is to be asked yet.
type waiting struct {
	question Question
	left     int
}

// NewAsks makes some: how often each, how long between.
func NewAsks(count int, gap int) (*Asks, api.Errno) {
	if count < 1 || count > mostCount || gap < 1 || gap > longGap {
		return nil, api.ErrArg
	}
	timers, e := wheel.New[int](mostAsks)
	if e != api.OK {
		return nil, e
	}
	return &Asks{count: count, gap: gap, timers: timers, kept: map[int]waiting{}}, api.OK
}

// Add takes a question to be asked from now on, Due tells what is to be asked, and Len how many questions wait. Asks that NewAsks did not make have no wheel, which is as good as a full one.
func (a *Asks) Add(q Question, now int) api.Errno {
	if a == nil || !mayBe(now) {
		return api.ErrArg
	}
	if e := a.timers.Arm(a.added, now); e != api.OK {
		return e
	}
	a.kept[a.added] = waiting{question: toKeep(q), left: a.count}
	a.added++
	return api.OK
}

func (a *Asks) Due(now int) []Question {
	if a == nil {
		return nil
	}
	var due []Question
	// Time by time: what is told at one may be due again at a later one that is not behind now.
	for at, is := a.timers.Next(); is && at <= now; at, is = a.timers.Next() {
		for _, key := range a.timers.Due(at) {
			due = append(due, a.tell(key, at))
		}
	}
	return due
}

func (a *Asks) Len() int {
	if a == nil {
		return 0
	}
	return a.timers.Len()
}

// tell answers a question that is due at a time, which waits for its next one then, or goes.
func (a *Asks) tell(key int, at int) Question {
	w := a.kept[key]
	w.left--
	if w.left == 0 {
		delete(a.kept, key)
		return w.question
	}
	a.kept[key] = w
	a.timers.Arm(key, at+a.gap)
	return withOwnList(w.question)
}

// toKeep is a question of which nothing is shared.
func toKeep(q Question) Question {
	q = withOwnList(q)
	q.Group = copied(q.Group)
	for i, s := range q.Sources {
		q.Sources[i] = copied(s)
	}
	return q
}

// withOwnList is a question whose list is new.
func withOwnList(q Question) Question {
	l := make([]api.Addr, len(q.Sources))
	copy(l, q.Sources)
	q.Sources = l
	return q
}
