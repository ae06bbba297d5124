package proxy_test

import (
	"math"
	"slices"
	"testing"

	"siphon/api"
	"siphon/filter"
	"siphon/group"
	"siphon/proxy"
)

func x(a api.Addr, at int) api.Timed { return api.Timed{Source: a, At: at} }

func in(l ...api.Timed) api.State { return api.State{Sources: l} }

func ex(at int, l ...api.Timed) api.State { return api.State{Except: true, At: at, Sources: l} }

func some(l ...api.Addr) api.Filter { return api.Filter{Sources: l} }

func but(l ...api.Addr) api.Filter { return api.Filter{Except: true, Sources: l} }

func alike(f, g api.Filter) bool {
	return f.Except == g.Except && slices.Equal(f.Sources, g.Sources)
}

// filters and merges tell what Filter and Merge must answer.
func filters(t *testing.T, s api.State, now int, want api.Filter) {
	t.Helper()
	if f := proxy.Filter(s, now); !alike(f, want) {
		t.Errorf("Filter of %v, %d: %v, not %v", s, now, f, want)
	}
}

func merges(t *testing.T, l []api.State, now int, want api.Filter) {
	t.Helper()
	if f := proxy.Merge(l, now); !alike(f, want) {
		t.Errorf("Merge of %v, %d: %v, not %v", l, now, f, want)
	}
}

// sources are so many, rising.
func sources(n int) []api.Addr {
	var l []api.Addr
	for i := range n {
		l = append(l, api.Addr([]byte{10, 0, byte(i >> 8), byte(i)}))
	}
	return l
}

// timed are sources, all with the same At.
func timed(at int, l ...api.Addr) []api.Timed {
	var all []api.Timed
	for _, a := range l {
		all = append(all, x(a, at))
	}
	return all
}

// P21.1: of a state that lets some through those whose time is behind now.
func TestFilterOfSome(t *testing.T) {
	s := in(x("a", 9), x("c", 4), x("d", 6))
	filters(t, s, math.MinInt, some("a", "c", "d"))
	filters(t, s, -1, some("a", "c", "d"))
	filters(t, s, 0, some("a", "c", "d"))
	filters(t, s, 3, some("a", "c", "d"))
	filters(t, s, 4, some("a", "d"))
	filters(t, s, 5, some("a", "d"))
	filters(t, s, 6, some("a"))
	filters(t, s, 8, some("a"))
	filters(t, s, 9, some())
	filters(t, s, 10, some())
	filters(t, s, math.MaxInt, some())
	filters(t, in(x("a", math.MaxInt)), math.MaxInt-1, some("a"))
	filters(t, in(), 5, some())
	filters(t, in(timed(5, sources(60)...)...), 4, some(sources(60)...))
	filters(t, in(timed(5, sources(60)...)...), 5, some())
}

// P21.1: of one that lets all but some through those, till it turns; a source whose time has come is one of them till then.
func TestFilterOfAllButSome(t *testing.T) {
	s := ex(9, x("a", 0), x("b", 0), x("c", 20), x("d", 6))
	for _, now := range []int{math.MinInt, -1, 0, 1, 5} {
		filters(t, s, now, but("a", "b"))
	}
	filters(t, s, 6, but("a", "b", "d"))
	filters(t, s, 8, but("a", "b", "d"))
	filters(t, s, 9, some("c"))
	filters(t, s, 10, some("c"))
	filters(t, s, 19, some("c"))
	filters(t, s, 20, some())
	filters(t, s, math.MaxInt, some())
	filters(t, ex(9), 8, but())
	filters(t, ex(9), 9, some())
	filters(t, ex(9, x("a", 0)), 9, some())
	filters(t, ex(9, x("a", 9)), 8, but())
	filters(t, ex(9, x("a", 9)), 9, some())
	filters(t, ex(9, x("a", 10), x("b", 10)), 9, some("a", "b"))
	filters(t, ex(5, timed(0, sources(60)...)...), 4, but(sources(60)...))
	filters(t, ex(5, timed(6, sources(60)...)...), 4, but())
	filters(t, ex(5, timed(6, sources(60)...)...), 5, some(sources(60)...))
}

// wrong are states that may not be.
func wrong() []api.State {
	return []api.State{
		in(x("b", 9), x("a", 9)),
		in(x("a", 9), x("a", 9)),
		in(x("a", 0)),
		in(x("a", 9), x("b", -1)),
		in(timed(9, sources(61)...)...),
		ex(9, timed(0, sources(61)...)...),
		ex(0),
		ex(-9),
		ex(9, x("a", -1)),
		ex(9, x("b", 0), x("a", 0)),
		{At: 9},
		{At: -9, Sources: timed(9, "a")},
	}
}

// P21.1: as group.Admits admits nothing by a state that may not be, so does its filter.
func TestFilterOfWrongStates(t *testing.T) {
	for _, s := range wrong() {
		if group.Check(s) != api.ErrForm {
			t.Errorf("%v may be", s)
		}
		for _, now := range []int{math.MinInt, 0, 5, 9, math.MaxInt} {
			filters(t, s, now, some())
			merges(t, []api.State{s}, now, some())
			merges(t, []api.State{s, in(x("b", 10)), s}, now, proxy.Filter(in(x("b", 10)), now))
			merges(t, []api.State{ex(10, x("a", 0)), s}, now, proxy.Filter(ex(10, x("a", 0)), now))
		}
	}
}

// states are all those of up to three sources with small times, and some that may not be.
func states() []api.State {
	l := wrong()
	for at := range 4 {
		for ends := range 5 * 5 * 5 {
			s := api.State{Except: at > 0, At: at}
			for _, a := range []api.Addr{"", "a", "a\x00"} {
				if end := ends%5 - 1; end >= 0 {
					s.Sources = append(s.Sources, x(a, end))
				}
				ends /= 5
			}
			l = append(l, s)
		}
	}
	return l
}

// P21.1: of each state, at each time, what group.Admits does, source by source, and in its form.
func TestFilterAdmitsAsItsState(t *testing.T) {
	for _, s := range states() {
		for now := -1; now < 6; now++ {
			f := proxy.Filter(s, now)
			if filter.Check(f) != api.OK {
				t.Errorf("%v, %d: %v is not in its form", s, now, f)
			}
			for _, a := range []api.Addr{"", "a", "a\x00", "b", "\x0a\x00\x00\x01"} {
				if filter.Admits(f, a) != group.Admits(s, a, now) {
					t.Errorf("%v, %d, %q: %v", s, now, a, f)
				}
			}
		}
	}
}

// P21.1: the document's example.
func TestTheDocumentsExample(t *testing.T) {
	merges(t, []api.State{in(x("a", 9)), ex(9, x("a", 0), x("b", 0))}, 5, but("b"))
}

// P21.1: of none, of one, of two and of many states.
func TestMerge(t *testing.T) {
	merges(t, nil, 5, some())
	merges(t, []api.State{}, 5, some())
	merges(t, []api.State{{}}, 5, some())
	merges(t, []api.State{in(x("a", 9), x("b", 4))}, 5, some("a"))
	merges(t, []api.State{ex(9, x("a", 0))}, 5, but("a"))
	merges(t, []api.State{ex(9)}, 5, but())
	for i, c := range []struct {
		l    []api.State
		want api.Filter
	}{
		{[]api.State{{}, {}}, some()},
		{[]api.State{in(x("b", 9)), in(x("a", 9), x("c", 9))}, some("a", "b", "c")},
		{[]api.State{in(x("a", 9)), in(x("a", 8), x("b", 5))}, some("a")},
		{[]api.State{in(x("a", 9)), {}}, some("a")},
		{[]api.State{ex(9, x("a", 0), x("b", 0)), ex(9, x("b", 0), x("c", 0))}, but("b")},
		{[]api.State{ex(9, x("a", 0)), ex(9, x("b", 0))}, but()},
		{[]api.State{ex(9, x("a", 0)), ex(4, x("b", 0))}, but("a")},
		{[]api.State{ex(9, x("a", 0)), in(x("b", 9))}, but("a")},
		{[]api.State{ex(9, x("a", 0), x("c", 7)), in(x("a", 9), x("b", 9))}, but()},
		{[]api.State{ex(9, x("a", 0), x("c", 5)), in(x("a", 5), x("b", 9))}, but("a", "c")},
		{[]api.State{ex(4, x("a", 0), x("c", 9)), in(x("b", 9))}, some("b", "c")},
		{[]api.State{ex(9, x("a", 0)), {}}, but("a")},
		{[]api.State{in(x("a", 9)), in(x("b", 9)), in(x("c", 9))}, some("a", "b", "c")},
		{[]api.State{ex(9, x("a", 0), x("b", 0), x("c", 0)), in(x("b", 9)), in(x("c", 9))}, but("a")},
		{[]api.State{ex(9, x("a", 0), x("b", 0)), ex(9, x("a", 0), x("c", 0)), in(x("b", 9))}, but("a")},
		{[]api.State{in(x("d", 9)), ex(9, x("a", 0), x("d", 0)), in(x("c", 9)), ex(9, x("a", 0), x("d", 0)), in(x("b", 9))}, but("a")},
		{[]api.State{in(x("b", 9)), in(x("a", 9)), in(x("b", 9)), {}, in(x("c", 5)), in(x("a", 6), x("e", 6)), in(x("d", 9))}, some("a", "b", "d", "e")},
		{[]api.State{ex(5), ex(4), in(x("a", 5)), ex(1, x("b", 2)), in(x("c", 1))}, some()},
	} {
		l := slices.Clone(c.l)
		for range l { // in whatever order
			if f := proxy.Merge(l, 5); !alike(f, c.want) {
				t.Errorf("case %d: %v: %v, not %v", i, l, f, c.want)
			}
			l = append(l[1:], l[0])
		}
		slices.Reverse(l)
		merges(t, l, 5, c.want)
	}
}

// P21.1: of states whose times have passed there is nothing, also behind the last of them.
func TestMergeByTime(t *testing.T) {
	l := []api.State{in(x("a", 3), x("b", 6)), ex(5, x("b", 0), x("c", 8)), in(x("d", 7)), ex(4, x("b", 0), x("c", 0))}
	merges(t, l, math.MinInt, but())
	merges(t, l, 3, but())
	merges(t, l[1:], 3, but("b"))
	merges(t, l, 5, some("b", "c", "d"))
	merges(t, l, 6, some("c", "d"))
	merges(t, l, 7, some("c"))
	merges(t, l, 8, some())
	merges(t, l, math.MaxInt, some())
}

// P21.1: of any number of states what one of them admits, source by source, and in its form.
func TestMergeAdmitsAsOneOfItsStates(t *testing.T) {
	seed := uint32(21)
	draw := func(n int) int {
		seed = seed*1664525 + 1013904223
		return int(seed>>8) % n
	}
	all := states()
	for range 5000 {
		var l []api.State
		for range draw(9) {
			l = append(l, all[draw(len(all))])
		}
		now := draw(6) - 1
		f := proxy.Merge(l, now)
		if filter.Check(f) != api.OK {
			t.Errorf("%v, %d: %v is not in its form", l, now, f)
		}
		except := false
		for _, a := range []api.Addr{"", "a", "a\x00", "b"} {
			one := slices.ContainsFunc(l, func(s api.State) bool { return group.Admits(s, a, now) })
			if filter.Admits(f, a) != one {
				t.Errorf("%v, %d, %q: %v", l, now, a, f)
			}
			except = except || a == "b" && one // what no state names goes by Except
		}
		if f.Except != except {
			t.Errorf("%v, %d: %v", l, now, f)
		}
	}
}

// P21.1, R1: of many states with many sources, all unlike.
func TestMergeOfManyStates(t *testing.T) {
	all := sources(60000)
	var l []api.State
	for at := 0; at < len(all); at += 60 {
		l = append(l, in(timed(9, all[at:at+60]...)...))
	}
	slices.Reverse(l)
	merges(t, l, 8, some(all...))
	merges(t, l, 9, some())
	l[500] = ex(9, append(timed(0, "\x09"), timed(0, all[:59]...)...)...)
	merges(t, l, 8, but("\x09"))
}

// roomy is a list with room behind it, in which marks stand.
func roomy[T any](mark T, l ...T) []T {
	return append(slices.Clone(l), mark, mark, mark, mark)[:len(l)]
}

// untouched tells that a list of roomy must be as it was, its marks too.
func untouched[T comparable](t *testing.T, mark T, l []T, want ...T) {
	t.Helper()
	if !slices.Equal(l, want) || !slices.Equal(l[:len(l)+4][len(l):], []T{mark, mark, mark, mark}) {
		t.Errorf("%v, not %v", l[:len(l)+4], want)
	}
}

// spoil writes into a list, and into the room behind it.
func spoil(l []api.Addr) {
	l = l[:cap(l)]
	for i := range l {
		l[i] = "spoilt"
	}
}

// R5: states are as they were, their room too; writing into an answer changes neither them nor the next answer.
func TestFiltersAreNewMemory(t *testing.T) {
	mark := x("mark", 77)
	for _, c := range []struct {
		l    []api.Timed
		want api.Filter
	}{{nil, some()}, {timed(9, "a"), some("a")}, {[]api.Timed{x("a", 9), x("b", 3), x("c", 8)}, some("a", "c")}} {
		s := in(roomy(mark, c.l...)...)
		turned := ex(4, roomy(mark, c.l...)...)
		blocks := ex(9, roomy(mark, timed(0, "a", "d")...)...)
		for range 2 {
			for _, list := range [][]api.State{{s}, {turned}, {s, turned}, {turned, s, {}}, {{}, s}} {
				l := roomy(ex(77), list...)
				spoil(proxy.Filter(s, 5).Sources)
				spoil(proxy.Filter(turned, 5).Sources)
				spoil(proxy.Filter(blocks, 5).Sources)
				spoil(proxy.Merge(l, 5).Sources)
				spoil(proxy.Merge([]api.State{blocks}, 5).Sources)
				merges(t, l, 5, c.want)
				for _, s := range l[:cap(l)][len(l) : len(l)+4] {
					if !s.Except || s.At != 77 || len(s.Sources) > 0 {
						t.Errorf("%v", s)
					}
				}
			}
			filters(t, s, 5, c.want)
			filters(t, blocks, 5, but("a", "d"))
			untouched(t, mark, s.Sources, c.l...)
			untouched(t, mark, turned.Sources, c.l...)
			untouched(t, mark, blocks.Sources, timed(0, "a", "d")...)
		}
	}
}
