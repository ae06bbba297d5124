package group_test

import (
	"slices"
	"testing"

	"siphon/api"
	"siphon/group"
)

// outcome is all that Apply answers.
type outcome struct {
	state api.State
	is    bool
	ask   group.Ask
	e     api.Errno
}

// set are sources, each with its At.
type set map[api.Addr]int

// part is of a state's sources those that run, or those that are blocked.
func part(s api.State, runs bool) set {
	l := set{}
	for _, x := range s.Sources {
		if (!s.Except || x.At != 0) == runs {
			l[x.Source] = x.At
		}
	}
	return l
}

// also is s with the sources of t that s has not; less is s without those of t; common are those of s that t has.
func (s set) also(t set) set {
	l := set{}
	for a, at := range t {
		l[a] = at
	}
	for a, at := range s {
		l[a] = at
	}
	return l
}

func (s set) less(t set) set {
	l := set{}
	for a, at := range s {
		if _, has := t[a]; !has {
			l[a] = at
		}
	}
	return l
}

func (s set) common(t set) set { return s.less(s.less(t)) }

// with are the same sources, all with one At.
func (s set) with(at int) set {
	l := set{}
	for a := range s {
		l[a] = at
	}
	return l
}

func (s set) addresses() []api.Addr {
	var l []api.Addr
	for a := range s {
		l = append(l, a)
	}
	slices.Sort(l)
	return l
}

// model is Apply by the document's words, kind by kind, of a state and a record that may be.
func model(s api.State, is bool, r api.Record, now int, t group.Times) outcome {
	if !is {
		s = api.State{}
	}
	told, end := set{}, now+t.Member
	for _, a := range r.Sources {
		told[a] = end
	}
	var next, asked set
	except, at, groupToo := s.Except, s.At, false
	if x, y := part(s, true), part(s, false); !s.Except {
		switch r.Kind {
		case api.IsIn, api.Allow:
			next = told.also(x)
		case api.ToIn:
			next, asked = told.also(x), x.less(told)
		case api.Block:
			next, asked = x, x.common(told)
		case api.IsEx:
			next, except, at = x.common(told).also(told.with(0)), true, end
		case api.ToEx:
			next, except, at, asked = x.common(told).also(told.with(0)), true, end, x.common(told)
		}
	} else {
		switch r.Kind {
		case api.IsIn, api.Allow:
			next = told.also(x).also(y.less(told))
		case api.ToIn:
			next, asked, groupToo = told.also(x).also(y.less(told)), x.less(told), true
		case api.Block:
			next, asked = y.also(x).also(told.with(s.At)), told.less(y)
		case api.IsEx:
			next, at = y.common(told).also(x.common(told)).also(told), end
		case api.ToEx:
			next, at, asked = y.common(told).also(x.common(told)).also(told.with(s.At)), end, told.less(y)
		}
	}
	return asks(next, except, at, asked, groupToo, now+t.Last)
}

// asks is what comes of a state when that is asked, till that time.
func asks(next set, except bool, at int, asked set, groupToo bool, till int) outcome {
	for a := range asked {
		if next[a] > till {
			next[a] = till
		}
	}
	if groupToo && at > till {
		at = till
	}
	if len(next) > 60 {
		return outcome{e: api.ErrArg}
	}
	if !except && len(next) == 0 {
		return outcome{}
	}
	s := api.State{Except: except, At: at}
	for _, a := range next.addresses() {
		s.Sources = append(s.Sources, api.Timed{Source: a, At: next[a]})
	}
	return outcome{state: s, is: true, ask: group.Ask{Group: groupToo, Sources: asked.addresses()}}
}

// each is every state with the sources a, b and c, each absent, blocked (with Except) or with one of the times; with Except At is one of them.
func each(times ...int) []api.State {
	var all []api.State
	for _, at := range append([]int{0}, times...) {
		ats := append([]int{-1}, times...)
		if at > 0 {
			ats = append(ats, 0)
		}
		for i := range len(ats) * len(ats) * len(ats) {
			s := api.State{Except: at > 0, At: at}
			for _, a := range []api.Addr{"a", "b", "c"} {
				if one := ats[i%len(ats)]; one >= 0 {
					s.Sources = append(s.Sources, api.Timed{Source: a, At: one})
				}
				i /= len(ats)
			}
			all = append(all, s)
		}
	}
	return all
}

// lists are what a record may tell: none, known ones, new ones (ahead of, between and behind the known), in any order, some twice.
func lists() [][]api.Addr {
	return [][]api.Addr{nil, {}, {"a"}, {"c"}, {"b", "a"}, {"c", "b", "a"}, {"b", "b"}, {"0"}, {"d", "aa", "0"}, {"d", "b", "d", "b"}, {"c", "aa", "a", "aa"}}
}

// P17.2: whatever the state, the kind and the sources are, Apply answers as the model does.
func TestApplyAsTheModel(t *testing.T) {
	times := group.Times{Member: 30, Last: 5}
	for _, s := range each(4, 10, 14, 15, 16, 90) {
		for kind := api.IsIn; kind <= api.Block; kind++ {
			for _, l := range lists() {
				r := api.Record{Kind: kind, Sources: l}
				want := model(s, true, r, 10, times)
				if got := applied(s, true, r, 10, times); !same(got, want) {
					t.Fatalf("%v, %v: %v, not %v", s, r, got, want)
				}
			}
		}
	}
}

// P17.5: whoever reports goes on as the model does, record by record, whether what is old went in between or not.
func TestManyRecordsAsTheModel(t *testing.T) {
	draw := random(17)
	for range 300 {
		times := group.Times{Member: 1 + draw(30), Last: 1 + draw(9)}
		var s api.State
		var is bool
		now := 1
		for range 60 {
			now += draw(6)
			if draw(3) > 0 {
				s, is = group.Expire(s, now)
			}
			r := api.Record{Kind: 1 + draw(6)}
			for range draw(5) {
				r.Sources = append(r.Sources, api.Addr("abcdefgh"[draw(8):][:1]))
			}
			want := model(s, is, r, now, times)
			got := applied(s, is, r, now, times)
			if !same(got, want) {
				t.Fatalf("%v, %v at %d: %v, not %v", s, r, now, got, want)
			}
			if e := group.Check(got.state); e != api.OK {
				t.Fatalf("%v: %d", got.state, e)
			}
			s, is = got.state, got.is
		}
	}
}

// wanted is what a record says its host wants.
func wanted(r api.Record, a api.Addr) bool {
	switch r.Kind {
	case api.IsIn, api.ToIn, api.Allow:
		return slices.Contains(r.Sources, a)
	case api.IsEx, api.ToEx:
		return !slices.Contains(r.Sources, a)
	}
	return false
}

// P17.5: what a host says it wants is let through, till the end; what all wanted before and is not asked about, still is.
func TestWhatIsWantedIsLetThrough(t *testing.T) {
	times := group.Times{Member: 30, Last: 5}
	for _, s := range each(4, 10, 14, 16, 40) {
		for kind := api.IsIn; kind <= api.Block; kind++ {
			for _, l := range lists() {
				r := api.Record{Kind: kind, Sources: l}
				got := applied(s, true, r, 10, times)
				for _, a := range []api.Addr{"0", "a", "b", "c", "d", "x"} {
					asked := got.ask.Group || slices.Contains(got.ask.Sources, a)
					for _, now := range []int{10, 13, 14, 15, 16, 39} {
						still := group.Admits(s, a, now) && !asked
						if (wanted(r, a) || still) && !group.Admits(got.state, a, now) {
							t.Fatalf("%v, %v: %q at %d is not let through: %v", s, r, a, now, got)
						}
					}
				}
			}
		}
	}
}

// P17.5: what is asked is let through till an answer is waited for no more, if it was ahead of that.
func TestWhatIsAskedHasTime(t *testing.T) {
	times := group.Times{Member: 30, Last: 5}
	for _, s := range each(14, 15, 16, 40) {
		for kind := api.IsIn; kind <= api.Block; kind++ {
			for _, l := range lists() {
				got := applied(s, true, api.Record{Kind: kind, Sources: l}, 10, times)
				for _, a := range []api.Addr{"0", "a", "b", "c", "d", "x"} {
					for _, now := range []int{10, 13, 14} {
						if group.Admits(s, a, now) && !group.Admits(got.state, a, now) {
							t.Fatalf("%v, %d of %q: %q at %d: %v", s, kind, l, a, now, got)
						}
					}
				}
			}
		}
	}
}

// P17.3, P17.4: Expire by the document's words, and Admits by it.
func TestExpireAndAdmitsByTheWords(t *testing.T) {
	for _, s := range each(4, 9, 10, 11) {
		for _, now := range []int{-1, 0, 1, 3, 4, 5, 8, 9, 10, 11, 12, 1 << 40} {
			var want api.State
			if s.Except && s.At > now {
				want.Except, want.At = true, s.At
			}
			admits := map[api.Addr]bool{"0": want.Except, "a": want.Except, "b": want.Except, "c": want.Except, "d": want.Except}
			for _, x := range s.Sources {
				if admits[x.Source] = x.At != 0 && x.At > now; admits[x.Source] {
					want.Sources = append(want.Sources, x)
				} else if want.Except {
					want.Sources = append(want.Sources, api.Timed{Source: x.Source})
				}
			}
			if left, is := group.Expire(s, now); !alike(left, want) || is != (want.Except || len(want.Sources) > 0) {
				t.Fatalf("%v at %d: %v, %v", s, now, left, is)
			}
			for a, is := range admits {
				if group.Admits(s, a, now) != is {
					t.Fatalf("%v at %d admits %q: not %v", s, now, a, is)
				}
			}
		}
	}
}

// random answers numbers less than n, the same ones each time.
func random(seed uint32) func(n int) int {
	return func(n int) int {
		seed = seed*1664525 + 1013904223
		return int(seed>>8) % n
	}
}
