package group_test

import (
	"math"
	"slices"
	"testing"

	"siphon/api"
	"siphon/group"
)

const last = 1 << 40

// x is a source with its At; in and ex are states without Except and with it.
func x(a api.Addr, at int) api.Timed { return api.Timed{Source: a, At: at} }

func in(l ...api.Timed) api.State { return api.State{Sources: l} }

func ex(at int, l ...api.Timed) api.State { return api.State{Except: true, At: at, Sources: l} }

// many are so many sources that rise, from that number on, all with one At.
func many(from int, n int, at int) []api.Timed {
	var l []api.Timed
	for i := range n {
		l = append(l, x(source(from+i), at))
	}
	return l
}

func source(n int) api.Addr { return api.Addr([]byte{10, 0, byte(n >> 8), byte(n)}) }

// told are the addresses of sources.
func told(l []api.Timed) []api.Addr {
	var all []api.Addr
	for _, s := range l {
		all = append(all, s.Source)
	}
	return all
}

func alike(a, b api.State) bool {
	return a.Except == b.Except && a.At == b.At && slices.Equal(a.Sources, b.Sources)
}

func same(a, b outcome) bool {
	return alike(a.state, b.state) && a.is == b.is && a.ask.Group == b.ask.Group && slices.Equal(a.ask.Sources, b.ask.Sources) && a.e == b.e
}

func applied(s api.State, is bool, r api.Record, now int, t group.Times) outcome {
	next, left, ask, e := group.Apply(s, is, r, now, t)
	return outcome{next, left, ask, e}
}

// mayBe are states that may be, mayNot such as may not.
func mayBe() []api.State {
	return []api.State{
		{}, {Sources: []api.Timed{}}, in(x("a", 1)), in(x("", 1)), in(x("a", 7), x("b", 1)), in(x("B", 3), x("a", 2), x("a\x00", math.MaxInt)), in(x("\x7f", 1), x("\x80", 1)),
		in(many(0, 59, 1)...), in(many(200, 60, 1)...),
		ex(1), ex(2), ex(math.MaxInt), ex(1, x("a", 0)), ex(1, x("a", 1)), ex(5, x("a", 7), x("b", 0), x("c", 1)), ex(1, x("", 0)),
		ex(1, many(0, 60, 0)...), ex(1, many(0, 60, 1)...),
	}
}

func mayNot() []api.State {
	return []api.State{
		{At: 1}, {At: -1}, {At: math.MinInt}, {Except: true}, ex(-1), ex(math.MinInt),
		{At: 1, Sources: many(0, 1, 1)}, {Except: true, Sources: many(0, 1, 1)},
		in(x("a", 0)), in(x("a", -1)), in(x("a", 1), x("b", 0)), in(x("a", 0), x("b", 1)), in(x("a", math.MinInt)),
		ex(1, x("a", -1)), ex(1, x("a", 0), x("b", -1), x("c", 0)), ex(0, x("a", 0)),
		in(x("a", 1), x("a", 1)), in(x("a", 1), x("a", 2)), in(x("b", 1), x("a", 1)), in(x("a", 1), x("c", 1), x("b", 1)), in(x("a", 1), x("B", 1)), in(x("\x80", 1), x("\x7f", 1)), in(x("a", 1), x("", 1)), in(x("a", 1), x("b", 1), x("a", 1)),
		ex(1, x("a", 0), x("a", 0)), ex(1, x("a", 0), x("a", 1)), ex(1, x("b", 0), x("a", 0)),
		in(many(0, 61, 1)...), ex(1, many(0, 61, 0)...), in(many(0, 1000, 1)...),
	}
}

// P17.1: sources that rise, at most 60, with the times that go with Except, and nothing else.
func TestCheck(t *testing.T) {
	for _, s := range mayBe() {
		if e := group.Check(s); e != api.OK {
			t.Errorf("%v: %d", s, e)
		}
	}
	for _, s := range mayNot() {
		if e := group.Check(s); e != api.ErrForm {
			t.Errorf("%v: %d", s, e)
		}
	}
}

// one is a record that comes to a state at 10, with a Member of 100 and a Last of 2, and what comes of it.
type one struct {
	s       api.State
	kind    int
	sources []api.Addr
	want    api.State
	ask     group.Ask
}

func asked(l ...api.Addr) group.Ask { return group.Ask{Sources: l} }

func (c one) try(t *testing.T) {
	t.Helper()
	want := outcome{state: c.want, is: c.want.Except || len(c.want.Sources) > 0, ask: c.ask}
	got := applied(c.s, true, api.Record{Kind: c.kind, Sources: c.sources}, 10, group.Times{Member: 100, Last: 2})
	if !same(got, want) {
		t.Errorf("%v, %d of %q: %v, not %v", c.s, c.kind, c.sources, got, want)
	}
}

// P17.2: each kind of record to a state without Except.
func TestApplyWithoutExcept(t *testing.T) {
	s := in(x("a", 50), x("b", 12), x("c", 11))
	for _, c := range []one{
		{s, api.IsIn, nil, s, group.Ask{}},
		{s, api.IsIn, []api.Addr{"d", "b", "0"}, in(x("0", 110), x("a", 50), x("b", 110), x("c", 11), x("d", 110)), group.Ask{}},
		{s, api.Allow, nil, s, group.Ask{}},
		{s, api.Allow, []api.Addr{"bb", "a", "a"}, in(x("a", 110), x("b", 12), x("bb", 110), x("c", 11)), group.Ask{}},
		{s, api.ToIn, nil, in(x("a", 12), x("b", 12), x("c", 11)), asked("a", "b", "c")},
		{s, api.ToIn, []api.Addr{"d", "b"}, in(x("a", 12), x("b", 110), x("c", 11), x("d", 110)), asked("a", "c")},
		{s, api.ToIn, []api.Addr{"c", "b", "a"}, in(x("a", 110), x("b", 110), x("c", 110)), group.Ask{}},
		{s, api.Block, nil, s, group.Ask{}},
		{s, api.Block, []api.Addr{"d", "0"}, s, group.Ask{}},
		{s, api.Block, []api.Addr{"d", "c", "a", "c"}, in(x("a", 12), x("b", 12), x("c", 11)), asked("a", "c")},
		{s, api.IsEx, nil, ex(110), group.Ask{}},
		{s, api.IsEx, []api.Addr{"d", "a"}, ex(110, x("a", 50), x("d", 0)), group.Ask{}},
		{s, api.ToEx, nil, ex(110), group.Ask{}},
		{s, api.ToEx, []api.Addr{"d", "0"}, ex(110, x("0", 0), x("d", 0)), group.Ask{}},
		{s, api.ToEx, []api.Addr{"d", "c", "b", "a"}, ex(110, x("a", 12), x("b", 12), x("c", 11), x("d", 0)), asked("a", "b", "c")},
	} {
		c.try(t)
	}
}

// P17.2: each kind of record to a state with Except, of sources that run (r), that are blocked (b), that are new (n).
func TestApplyWithExcept(t *testing.T) {
	s := ex(40, x("b1", 0), x("b2", 0), x("r1", 50), x("r2", 11))
	for _, c := range []one{
		{s, api.IsIn, nil, s, group.Ask{}},
		{s, api.IsIn, []api.Addr{"r1", "n", "b2"}, ex(40, x("b1", 0), x("b2", 110), x("n", 110), x("r1", 110), x("r2", 11)), group.Ask{}},
		{s, api.Allow, nil, s, group.Ask{}},
		{s, api.Allow, []api.Addr{"b1", "r2", "b1"}, ex(40, x("b1", 110), x("b2", 0), x("r1", 50), x("r2", 110)), group.Ask{}},
		{s, api.ToIn, nil, ex(12, x("b1", 0), x("b2", 0), x("r1", 12), x("r2", 11)), group.Ask{Group: true, Sources: []api.Addr{"r1", "r2"}}},
		{s, api.ToIn, []api.Addr{"r1", "n", "b2"}, ex(12, x("b1", 0), x("b2", 110), x("n", 110), x("r1", 110), x("r2", 11)), group.Ask{Group: true, Sources: []api.Addr{"r2"}}},
		{s, api.ToIn, []api.Addr{"r1", "r2"}, ex(12, x("b1", 0), x("b2", 0), x("r1", 110), x("r2", 110)), group.Ask{Group: true}},
		{s, api.Block, nil, s, group.Ask{}},
		{s, api.Block, []api.Addr{"b2", "b1"}, s, group.Ask{}},
		{s, api.Block, []api.Addr{"r2", "r1", "n", "b1"}, ex(40, x("b1", 0), x("b2", 0), x("n", 12), x("r1", 12), x("r2", 11)), asked("n", "r1", "r2")},
		{s, api.IsEx, nil, ex(110), group.Ask{}},
		{s, api.IsEx, []api.Addr{"r2", "n", "b1"}, ex(110, x("b1", 0), x("n", 110), x("r2", 11)), group.Ask{}},
		{s, api.ToEx, nil, ex(110), group.Ask{}},
		{s, api.ToEx, []api.Addr{"b2", "b1"}, ex(110, x("b1", 0), x("b2", 0)), group.Ask{}},
		{s, api.ToEx, []api.Addr{"r2", "r1", "n", "b1"}, ex(110, x("b1", 0), x("n", 12), x("r1", 12), x("r2", 11)), asked("n", "r1", "r2")},
	} {
		c.try(t)
	}
}

// P17.2: new sources of Block and ToEx have the group's At, which may be earlier than an answer is waited for; the group's own is not made later either.
func TestAskedAtTheEdges(t *testing.T) {
	for _, at := range []int{1, 9, 10, 11, 12, 13, 40} {
		sooner := min(at, 12)
		for _, c := range []one{
			{ex(at), api.Block, []api.Addr{"n"}, ex(at, x("n", sooner)), asked("n")},
			{ex(at), api.ToEx, []api.Addr{"n"}, ex(110, x("n", sooner)), asked("n")},
			{ex(at), api.ToIn, []api.Addr{"n"}, ex(sooner, x("n", 110)), group.Ask{Group: true}},
			{ex(40, x("r", at)), api.ToIn, nil, ex(12, x("r", sooner)), group.Ask{Group: true, Sources: []api.Addr{"r"}}},
			{ex(40, x("r", at)), api.Block, []api.Addr{"r"}, ex(40, x("r", sooner)), asked("r")},
			{ex(40, x("r", at)), api.ToEx, []api.Addr{"r"}, ex(110, x("r", sooner)), asked("r")},
			{in(x("r", at)), api.ToIn, nil, in(x("r", sooner)), asked("r")},
			{in(x("r", at)), api.Block, []api.Addr{"r"}, in(x("r", sooner)), asked("r")},
			{in(x("r", at)), api.ToEx, []api.Addr{"r"}, ex(110, x("r", sooner)), asked("r")},
		} {
			c.try(t)
		}
	}
	one{ex(150), api.IsEx, []api.Addr{"n"}, ex(110, x("n", 110)), group.Ask{}}.try(t)
	one{ex(150, x("r", 200)), api.ToEx, nil, ex(110), group.Ask{}}.try(t)
}

// P17.2: of none, each kind; what is handed in as its state counts for nothing, whatever it is.
func TestApplyToNone(t *testing.T) {
	times := group.Times{Member: 100, Last: 2}
	for _, s := range append(mayNot(), mayBe()...) {
		for kind := api.IsIn; kind <= api.Block; kind++ {
			for _, l := range [][]api.Addr{nil, {"b"}, {"b", "a", "b"}} {
				want := outcome{}
				for i, a := range slices.Compact(slices.Sorted(slices.Values(l))) {
					switch kind {
					case api.IsIn, api.Allow, api.ToIn:
						want.state.Sources = append(want.state.Sources, x(a, 110))
					case api.IsEx, api.ToEx:
						want.state.Sources = append(want.state.Sources, x(a, 0))
					}
					want.is = want.is || i == 0 && kind != api.Block
				}
				if kind == api.IsEx || kind == api.ToEx {
					want.is, want.state.Except, want.state.At = true, true, 110
				}
				if got := applied(s, false, api.Record{Kind: kind, Sources: l}, 10, times); !same(got, want) {
					t.Errorf("%d of %q: %v, not %v", kind, l, got, want)
				}
			}
		}
	}
}

// P17.2: the document's example.
func TestTheDocumentsExample(t *testing.T) {
	times := group.Times{Member: 60, Last: 3}
	s := applied(api.State{}, false, api.Record{Kind: api.IsEx, Sources: []api.Addr{"a"}}, 5, times)
	if !same(s, outcome{state: ex(65, x("a", 0)), is: true}) {
		t.Errorf("%v", s)
	}
	s = applied(s.state, s.is, api.Record{Kind: api.ToIn, Sources: []api.Addr{"b"}}, 7, times)
	if !same(s, outcome{state: ex(10, x("a", 0), x("b", 67)), is: true, ask: group.Ask{Group: true}}) {
		t.Errorf("%v", s)
	}
}

// P17.2: of Member, Last, now, the kind and the sources' count the least and the greatest are well, and one beyond is ErrArg, whatever the others are.
func TestApplyRefuses(t *testing.T) {
	type argument struct {
		member, last, now, kind, count int
	}
	well := argument{100, 2, 10, 1, 1}
	var right, wrong []argument
	add := func(l *[]argument, set func(a *argument, n int), numbers ...int) {
		for _, n := range numbers {
			a := well
			set(&a, n)
			*l = append(*l, a)
		}
	}
	member := func(a *argument, n int) { a.member = n }
	end := func(a *argument, n int) { a.last = n }
	now := func(a *argument, n int) { a.now = n }
	kind := func(a *argument, n int) { a.kind = n }
	count := func(a *argument, n int) { a.count = n }
	add(&right, member, 1, 2, 999999, 1000000)
	add(&right, end, 1, 2, 999999, 1000000)
	add(&right, now, 1, 2, last-1, last)
	add(&right, kind, 1, 2, 3, 4, 5, 6)
	add(&right, count, 0, 1, 59, 60)
	add(&wrong, member, 0, -1, 1000001, math.MinInt, math.MaxInt)
	add(&wrong, end, 0, -1, 1000001, math.MinInt, math.MaxInt)
	add(&wrong, now, 0, -1, last+1, math.MinInt, math.MaxInt)
	add(&wrong, kind, 0, -1, 7, 8, math.MinInt, math.MaxInt, 1<<32+1)
	add(&wrong, count, 61, 62, 500)
	try := func(s api.State, is bool, a argument) outcome {
		r := api.Record{Kind: a.kind, Sources: told(many(0, a.count, 0))}
		return applied(s, is, r, a.now, group.Times{Member: a.member, Last: a.last})
	}
	for _, is := range []bool{false, true} {
		for _, a := range right {
			if got := try(api.State{}, is, a); !same(got, model(api.State{}, is, api.Record{Kind: a.kind, Sources: told(many(0, a.count, 0))}, a.now, group.Times{Member: a.member, Last: a.last})) || got.e != api.OK {
				t.Errorf("%v, %v: %v", is, a, got)
			}
		}
		for _, a := range wrong {
			if got := try(ex(7, x("a", 0)), is, a); !same(got, outcome{e: api.ErrArg}) {
				t.Errorf("%v, %v: %v", is, a, got)
			}
		}
	}
	// R2: a state that may not be is told ahead of all that; where there is none it counts for nothing.
	for _, s := range mayNot() {
		for _, a := range append(wrong, well) {
			if got := try(s, true, a); !same(got, outcome{e: api.ErrForm}) {
				t.Errorf("%v, %v: %v", s, a, got)
			}
		}
		for _, a := range wrong {
			if got := try(s, false, a); !same(got, outcome{e: api.ErrArg}) {
				t.Errorf("%v, %v: %v", s, a, got)
			}
		}
	}
}

// P17.2: each source counts once, but a record of more than 60 is refused, also where they are all the same.
func TestSourcesTwice(t *testing.T) {
	times := group.Times{Member: 100, Last: 2}
	for kind := api.IsIn; kind <= api.Block; kind++ {
		r := api.Record{Kind: kind, Sources: slices.Repeat([]api.Addr{"b", "a"}, 30)}
		for _, s := range []api.State{{}, in(x("b", 30)), ex(20, x("a", 0), x("b", 30))} {
			if got, once := applied(s, true, r, 10, times), applied(s, true, api.Record{Kind: kind, Sources: []api.Addr{"a", "b"}}, 10, times); !same(got, once) || got.e != api.OK {
				t.Errorf("%v, %d: %v, not %v", s, kind, got, once)
			}
		}
		r.Sources = append(r.Sources, "a")
		if got := applied(in(x("b", 30)), true, r, 10, times); !same(got, outcome{e: api.ErrArg}) {
			t.Errorf("%d: %v", kind, got)
		}
	}
}

// P17.2: a state has at most 60 sources; ErrArg, and none, if it would have more.
func TestTooManySources(t *testing.T) {
	times := group.Times{Member: 100, Last: 2}
	for _, c := range []struct {
		kind   int
		except bool
	}{{api.IsIn, false}, {api.Allow, false}, {api.ToIn, false}, {api.IsIn, true}, {api.Allow, true}, {api.ToIn, true}, {api.Block, true}} {
		for _, has := range []int{1, 30, 59, 60} {
			s := in(many(0, has, 50)...)
			if c.except {
				s = ex(50, many(0, has, 50)...)
			}
			for _, more := range []int{-1, 0, 1} {
				fresh := 60 - has + more
				if fresh < 0 || fresh > 60 {
					continue
				}
				r := api.Record{Kind: c.kind, Sources: told(many(has, fresh, 0))}
				got := applied(s, true, r, 10, times)
				if more > 0 && !same(got, outcome{e: api.ErrArg}) || more <= 0 && (got.e != api.OK || len(got.state.Sources) != has+fresh) {
					t.Errorf("%v, of %d sources and %d: %v", c, has, fresh, got)
				}
			}
		}
	}
	// Kinds that keep none but what is known, or what is told, stay within.
	for _, kind := range []int{api.IsEx, api.ToEx, api.Block} {
		for _, s := range []api.State{in(many(0, 60, 50)...), ex(50, many(0, 60, 0)...), ex(50, many(0, 60, 50)...)} {
			from := 60
			if s.Except && kind == api.Block {
				from = 0
			}
			r := api.Record{Kind: kind, Sources: told(many(from, 60, 0))}
			if got := applied(s, true, r, 10, times); got.e != api.OK || len(got.state.Sources) != 60 {
				t.Errorf("%d: %v", kind, got)
			}
		}
	}
}

// P17.2: neither the record's Group nor the size of its sources counts.
func TestGroupCountsForNothing(t *testing.T) {
	for _, g := range []api.Addr{"", "abc", "\xe0\x01\x02\x03", "\x0a\x00\x00\x01"} {
		r := api.Record{Kind: api.ToEx, Group: g, Sources: []api.Addr{"", "abcdefghijklmnop"}}
		if got := applied(in(x("", 9)), true, r, 8, group.Times{Member: 1, Last: 1}); !same(got, outcome{state: ex(9, x("", 9), x("abcdefghijklmnop", 0)), is: true, ask: asked("")}) {
			t.Errorf("%q: %v", g, got)
		}
	}
}

// P17.3: what is left at a time, one ahead of an At, just at it, and one behind.
func TestExpire(t *testing.T) {
	both := in(x("a", 50), x("b", 52))
	mix := ex(40, x("r", 50), x("y", 0))
	for i, c := range []struct {
		s    api.State
		now  int
		want api.State
		is   bool
	}{
		{api.State{}, 1, api.State{}, false}, {api.State{Sources: []api.Timed{}}, 1, api.State{}, false},
		{both, 0, both, true}, {both, 49, both, true}, {both, 50, in(x("b", 52)), true}, {both, 51, in(x("b", 52)), true}, {both, 52, api.State{}, false}, {both, 53, api.State{}, false},
		{both, math.MinInt, both, true}, {both, -1, both, true}, {both, math.MaxInt, api.State{}, false}, {both, last + 1, api.State{}, false},
		{mix, 39, mix, true}, {mix, 40, in(x("r", 50)), true}, {mix, 49, in(x("r", 50)), true}, {mix, 50, api.State{}, false}, {mix, 51, api.State{}, false},
		{mix, math.MinInt, mix, true}, {mix, -1, mix, true}, {mix, 0, mix, true}, {mix, math.MaxInt, api.State{}, false},
		{ex(90, x("r", 50), x("y", 0)), 49, ex(90, x("r", 50), x("y", 0)), true}, {ex(90, x("r", 50), x("y", 0)), 50, ex(90, x("r", 0), x("y", 0)), true}, {ex(90, x("r", 50), x("y", 0)), 89, ex(90, x("r", 0), x("y", 0)), true}, {ex(90, x("r", 50), x("y", 0)), 90, api.State{}, false},
		{ex(50, x("r", 50), x("y", 0)), 49, ex(50, x("r", 50), x("y", 0)), true}, {ex(50, x("r", 50), x("y", 0)), 50, api.State{}, false},
		{ex(1), 0, ex(1), true}, {ex(1), 1, api.State{}, false}, {ex(7, x("a", 0)), 7, api.State{}, false}, {ex(math.MaxInt), math.MaxInt - 1, ex(math.MaxInt), true},
		{in(many(0, 60, 9)...), 8, in(many(0, 60, 9)...), true}, {ex(20, many(0, 60, 9)...), 9, ex(20, many(0, 60, 0)...), true},
	} {
		if s, is := group.Expire(c.s, c.now); !alike(s, c.want) || is != c.is {
			t.Errorf("case %d: %v, %v", i, s, is)
		}
	}
	for _, s := range mayNot() {
		for _, now := range []int{math.MinInt, 0, 1, last} {
			if left, is := group.Expire(s, now); !alike(left, api.State{}) || is {
				t.Errorf("%v at %d: %v, %v", s, now, left, is)
			}
		}
	}
}

// P17.4: of a source that runs, that is blocked, that is not there.
func TestAdmits(t *testing.T) {
	both := in(x("a", 50), x("b", 52))
	mix := ex(40, x("r", 30), x("s", 50), x("y", 0))
	for i, c := range []struct {
		s    api.State
		a    api.Addr
		now  int
		want bool
	}{
		{api.State{}, "a", 1, false}, {api.State{}, "", 1, false}, {both, "", 1, false},
		{both, "a", 0, true}, {both, "a", 49, true}, {both, "a", 50, false}, {both, "a", 51, false}, {both, "b", 51, true}, {both, "b", 52, false}, {both, "c", 1, false},
		{mix, "r", 29, true}, {mix, "r", 30, false}, {mix, "r", 31, false}, {mix, "r", 40, false},
		{mix, "s", 29, true}, {mix, "s", 39, true}, {mix, "s", 40, true}, {mix, "s", 49, true}, {mix, "s", 50, false},
		{mix, "y", 0, false}, {mix, "y", 39, false}, {mix, "y", 40, false}, {mix, "y", -5, false},
		{mix, "z", 0, true}, {mix, "z", 39, true}, {mix, "z", 40, false}, {mix, "", 39, true}, {mix, "z", math.MinInt, true}, {mix, "s", math.MaxInt, false},
		{ex(1), "a", 0, true}, {ex(1), "a", 1, false},
	} {
		if is := group.Admits(c.s, c.a, c.now); is != c.want {
			t.Errorf("case %d: %v", i, is)
		}
	}
	for _, s := range mayNot() {
		for _, a := range []api.Addr{"a", "b", "z", "", source(0)} {
			if group.Admits(s, a, 0) {
				t.Errorf("%v: %q", s, a)
			}
		}
	}
}

// roomy is a list with room behind it, in which marks stand.
func roomy[T any](mark T, l ...T) []T {
	return append(slices.Clone(l), mark, mark, mark, mark)[:len(l)]
}

// untouched tells that a list of roomy must be as it was, its marks too.
func untouched[T comparable](t *testing.T, mark T, l []T, want ...T) {
	t.Helper()
	if whole := l[:len(l)+4]; !slices.Equal(whole, append(slices.Clone(want), mark, mark, mark, mark)) {
		t.Errorf("%v, not %v", whole, want)
	}
}

// spoil writes into a list, and into the room behind it.
func spoil[T any](l []T, with T) {
	l = l[:cap(l)]
	for i := range l {
		l[i] = with
	}
}

// R5: what is handed in is as it was; writing into an answer changes neither it nor another one, nor another list of the same answer.
func TestAnswersAreNewMemory(t *testing.T) {
	times := group.Times{Member: 100, Last: 2}
	mark := x("mark", 7)
	for _, s := range []api.State{{}, in(x("a", 50), x("c", 60)), ex(40, x("a", 50), x("b", 0), x("c", 60)), in(many(0, 5, 99)...)} {
		was := slices.Clone(s.Sources)
		s.Sources = roomy(mark, was...)
		for _, l := range [][]api.Addr{nil, {"c", "a", "c"}, {"d", "b"}} {
			for kind := api.IsIn; kind <= api.Block; kind++ {
				r := api.Record{Kind: kind, Sources: roomy("mark", l...)}
				want := model(s, true, r, 10, times)
				got := applied(s, true, r, 10, times)
				spoil(got.ask.Sources, "spoilt")
				if !slices.Equal(got.state.Sources, want.state.Sources) {
					t.Errorf("%v, not %v", got, want)
				}
				spoil(got.state.Sources, x("spoilt", 1))
				if again := applied(s, true, r, 10, times); !same(again, want) {
					t.Errorf("%v, not %v", again, want)
				}
				untouched(t, "mark", r.Sources, l...)
				untouched(t, mark, s.Sources, was...)
			}
		}
		for _, now := range []int{1, 40, 50, 60} {
			left, _ := group.Expire(s, now)
			spoil(left.Sources, x("spoilt", 1))
			group.Admits(s, "a", now)
			group.Check(s)
			untouched(t, mark, s.Sources, was...)
		}
	}
}
