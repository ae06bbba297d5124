package filter_test

import (
	"math/rand/v2"
	"slices"
	"strconv"
	"testing"

	"siphon/api"
	"siphon/filter"
)

const (
	none  = api.Addr("")
	four  = api.Addr("\x0a\x00\x00\x01")
	next  = api.Addr("\x0a\x00\x00\x02")
	high  = api.Addr("\xff\x00\x00\x01")
	six   = api.Addr("\x20\x01\x0d\xb8\x00\x00\x00\x00\x00\x00\x00\x00\x00\x00\x00\x01")
	group = api.Addr("\xe0\x01\x02\x03")
)

func some(l ...api.Addr) api.Filter { return api.Filter{Sources: l} }

func but(l ...api.Addr) api.Filter { return api.Filter{Except: true, Sources: l} }

func alike(f, g api.Filter) bool {
	return f.Except == g.Except && slices.Equal(f.Sources, g.Sources)
}

func copied(f api.Filter) api.Filter {
	return api.Filter{Except: f.Except, Sources: slices.Clone(f.Sources)}
}

// lets tells what the document says of a filter, source by source.
func lets(f api.Filter, s api.Addr) bool {
	for _, x := range f.Sources {
		if x == s {
			return !f.Except
		}
	}
	return f.Except
}

// inForm tells whether sources rise.
func inForm(f api.Filter) bool {
	for i := range f.Sources {
		for k := range i {
			if f.Sources[k] >= f.Sources[i] {
				return false
			}
		}
	}
	return true
}

// lists are all lists of so many of the sources, in any order, some twice.
func lists(most int, l ...api.Addr) [][]api.Addr {
	all := [][]api.Addr{nil}
	last := all
	for range most {
		var longer [][]api.Addr
		for _, ahead := range last {
			for _, s := range l {
				longer = append(longer, append(slices.Clone(ahead), s))
			}
		}
		all, last = append(all, longer...), longer
	}
	return all
}

// filters are those of all lists of up to three of three sources of unlike sizes, with and without Except.
func filters() []api.Filter {
	all := []api.Filter{some([]api.Addr{}...), but([]api.Addr{}...)}
	for _, l := range lists(3, none, six, four) {
		all = append(all, some(l...), but(l...))
	}
	return all
}

// asked are those sources, and some others.
func asked() []api.Addr {
	return []api.Addr{none, six, four, next, high, "\x0a", "\x0a\x00\x00\x01\x00"}
}

// admits tells that f must be in its form, and let through just what want says.
func admits(t *testing.T, name string, f api.Filter, want func(s api.Addr) bool) {
	t.Helper()
	if !inForm(f) || filter.Check(f) != api.OK {
		t.Errorf("%s: not in its form: %v", name, f)
	}
	for _, s := range asked() {
		if lets(f, s) != want(s) {
			t.Errorf("%s: %v, of %x", name, f, s)
		}
	}
}

// P11.1: sources that rise byte by byte are in the form, whether they are excepted or not; others are not.
func TestCheck(t *testing.T) {
	rise := [][]api.Addr{nil, {}, {none}, {four}, {four, next}, {none, "a"}, {"a", "a\x00"}, {"B", "a"}, {"\x7f", "\x80"}, {four, six, high}, {none, four, "\x0a\x00\x00\x01\x00", next, six, high}}
	not := [][]api.Addr{{four, four}, {none, none}, {next, four}, {"a", none}, {"a\x00", "a"}, {"a", "B"}, {"\x80", "\x7f"}, {"b", "c", "a"}, {"a", "c", "b"}, {"a", "b", "b"}, {"a", "a", "b"}, {"a", "b", "a"}, {high, six}}
	for _, except := range []bool{false, true} {
		for _, l := range rise {
			if e := filter.Check(api.Filter{Except: except, Sources: l}); e != api.OK {
				t.Errorf("%q: %d", l, e)
			}
		}
		for _, l := range not {
			if e := filter.Check(api.Filter{Except: except, Sources: l}); e != api.ErrForm {
				t.Errorf("%q: %d", l, e)
			}
		}
	}
}

// P11.1: of each list there is, Check tells what its order says.
func TestCheckOfEachList(t *testing.T) {
	for _, f := range filters() {
		want := api.OK
		if !inForm(f) {
			want = api.ErrForm
		}
		if e := filter.Check(f); e != want {
			t.Errorf("%v: %d", f, e)
		}
	}
}

// P11.1: a filter is brought into its form, and admits the same there.
func TestNorm(t *testing.T) {
	for i, c := range []struct{ f, want api.Filter }{
		{some(), some()},
		{but(), but()},
		{some(four), some(four)},
		{but(none), but(none)},
		{some(four, next), some(four, next)},
		{some(next, four), some(four, next)},
		{but(next, four, next, four), but(four, next)},
		{some(none, none, none), some(none)},
		{but(high, six, four, none), but(none, four, six, high)},
		{some("a", "B", "a\x00", "\xff", "a"), some("B", "a", "a\x00", "\xff")},
	} {
		if f := filter.Norm(c.f); !alike(f, c.want) {
			t.Errorf("case %d: %v", i, f)
		}
	}
	for _, f := range filters() {
		n := filter.Norm(f)
		admits(t, "Norm", n, func(s api.Addr) bool { return lets(f, s) })
		if n.Except != f.Except || !alike(filter.Norm(n), n) {
			t.Errorf("%v: %v", f, n)
		}
	}
}

// P11.1: without Except the sources are admitted, with it the others, whatever the form.
func TestAdmits(t *testing.T) {
	for i, c := range []struct {
		f    api.Filter
		s    api.Addr
		want bool
	}{
		{some(), four, false},
		{some(), none, false},
		{but(), four, true},
		{but(), none, true},
		{some(four), four, true},
		{some(four), next, false},
		{some(four), none, false},
		{some(four), "\x0a\x00\x00", false},
		{some(four), "\x0a\x00\x00\x01\x00", false},
		{but(four), four, false},
		{but(four), next, true},
		{some(next, none, four, four), four, true},
		{some(next, none, four, four), none, true},
		{but(six, four, six), six, false},
		{but(six, four, six), four, false},
		{but(six, four, six), next, true},
	} {
		if is := filter.Admits(c.f, c.s); is != c.want {
			t.Errorf("case %d: %v", i, is)
		}
	}
	for _, f := range filters() {
		for _, s := range asked() {
			if is := filter.Admits(f, s); is != lets(f, s) {
				t.Errorf("%v, %x: %v", f, s, is)
			}
		}
	}
}

// P11.2: filters told one by one.
func TestOrAndNot(t *testing.T) {
	for i, c := range []struct{ f, g, or, and api.Filter }{
		{some(), some(), some(), some()},
		{some(), some("a"), some("a"), some()},
		{some(), but(), but(), some()},
		{some(), but("a"), but("a"), some()},
		{but(), but(), but(), but()},
		{but(), some("a"), but(), some("a")},
		{but(), but("a"), but(), but("a")},
		{some("a"), some("a"), some("a"), some("a")},
		{some("a"), some("b"), some("a", "b"), some()},
		{some("c", "a"), some("b", "c"), some("a", "b", "c"), some("c")},
		{some("a", "b"), but("b", "c"), but("c"), some("a")},
		{some("a"), but("a"), but(), some()},
		{but("a", "b"), but("b", "c"), but("b"), but("a", "b", "c")},
		{but("a"), but("b"), but(), but("a", "b")},
		{but("b", "a", "b"), but("a", "b", "a"), but("a", "b"), but("a", "b")},
		{some("b", "", "b"), some("c", "c", ""), some("", "b", "c"), some("")},
	} {
		for _, pair := range [][2]api.Filter{{c.f, c.g}, {c.g, c.f}} {
			if f := filter.Or(pair[0], pair[1]); !alike(f, c.or) {
				t.Errorf("case %d: or: %v", i, f)
			}
			if f := filter.And(pair[0], pair[1]); !alike(f, c.and) {
				t.Errorf("case %d: and: %v", i, f)
			}
		}
	}
	for i, c := range []struct{ f, want api.Filter }{
		{some(), but()},
		{but(), some()},
		{some("b", "a", "b"), but("a", "b")},
		{but("", "a"), some("", "a")},
	} {
		if f := filter.Not(c.f); !alike(f, c.want) {
			t.Errorf("case %d: not: %v", i, f)
		}
	}
}

// P11.2: of each pair of filters, in their form or not, source by source.
func TestOrAndNotOfEachPair(t *testing.T) {
	all := filters()
	for _, f := range all {
		admits(t, "Not", filter.Not(f), func(s api.Addr) bool { return !lets(f, s) })
		for _, g := range all {
			admits(t, "Or", filter.Or(f, g), func(s api.Addr) bool { return lets(f, s) || lets(g, s) })
			admits(t, "And", filter.And(f, g), func(s api.Addr) bool { return lets(f, s) && lets(g, s) })
		}
	}
}

// P11.2, P11.4: a filter is Except just where it admits those that nobody has named.
func TestExceptOfEachPair(t *testing.T) {
	for _, a := range []bool{false, true} {
		for _, b := range []bool{false, true} {
			f, g := api.Filter{Except: a, Sources: []api.Addr{"b", "a"}}, api.Filter{Except: b, Sources: []api.Addr{"c", "b"}}
			if filter.Or(f, g).Except != (a || b) || filter.And(f, g).Except != (a && b) || filter.Not(f).Except == a {
				t.Errorf("%v, %v", f, g)
			}
		}
	}
}

// P11.4: the laws of sets.
func TestLawsOfSets(t *testing.T) {
	nothing, all := some(), but()
	hold := func(law string, f, g api.Filter) {
		t.Helper()
		if !alike(f, g) {
			t.Errorf("%s: %v, %v", law, f, g)
		}
	}
	l := []api.Filter{nothing, all, some(four), but(four), some(six, four), but(six, six), some(none, next), but(next, none, four), some(high, four, high)}
	for _, f := range l {
		hold("twice not", filter.Not(filter.Not(f)), filter.Norm(f))
		hold("or itself", filter.Or(f, f), filter.Norm(f))
		hold("and itself", filter.And(f, f), filter.Norm(f))
		hold("or nothing", filter.Or(f, nothing), filter.Norm(f))
		hold("and nothing", filter.And(f, nothing), nothing)
		hold("or all", filter.Or(f, all), all)
		hold("and all", filter.And(f, all), filter.Norm(f))
		hold("or not", filter.Or(f, filter.Not(f)), all)
		hold("and not", filter.And(f, filter.Not(f)), nothing)
		for _, g := range l {
			hold("or turned", filter.Or(f, g), filter.Or(g, f))
			hold("and turned", filter.And(f, g), filter.And(g, f))
			hold("not or", filter.Not(filter.Or(f, g)), filter.And(filter.Not(f), filter.Not(g)))
			hold("not and", filter.Not(filter.And(f, g)), filter.Or(filter.Not(f), filter.Not(g)))
			hold("or of and", filter.Or(f, filter.And(f, g)), filter.Norm(f))
			for _, h := range l {
				hold("or of three", filter.Or(filter.Or(f, g), h), filter.Or(f, filter.Or(g, h)))
				hold("and of three", filter.And(filter.And(f, g), h), filter.And(f, filter.And(g, h)))
				hold("and among or", filter.And(f, filter.Or(g, h)), filter.Or(filter.And(f, g), filter.And(f, h)))
				hold("or among and", filter.Or(f, filter.And(g, h)), filter.And(filter.Or(f, g), filter.Or(f, h)))
			}
		}
	}
}

// P11.2, P11.4: long lists too, of which many sources stand in both.
func TestLongLists(t *testing.T) {
	r := rand.New(rand.NewPCG(11, 2))
	for range 20 {
		var f, g api.Filter
		f.Except, g.Except = r.IntN(2) == 0, r.IntN(2) == 0
		for range 1 + r.IntN(800) {
			f.Sources = append(f.Sources, api.Addr(strconv.Itoa(r.IntN(1000))))
			g.Sources = append(g.Sources, api.Addr(strconv.Itoa(r.IntN(1000))))
		}
		or, and := filter.Or(f, g), filter.And(f, g)
		if filter.Check(or) != api.OK || filter.Check(and) != api.OK {
			t.Error("not in their form")
		}
		for n := range 1001 {
			s := api.Addr(strconv.Itoa(n))
			if lets(or, s) != (lets(f, s) || lets(g, s)) || lets(and, s) != (lets(f, s) && lets(g, s)) {
				t.Errorf("%s", s)
			}
		}
		if l := filter.Diff(group, f, g); !sameRecords(l, told(group, f, g)) {
			t.Error("Diff")
		}
	}
}

func sameRecords(l, m []api.Record) bool {
	return slices.EqualFunc(l, m, func(a, b api.Record) bool {
		return a.Kind == b.Kind && a.Group == b.Group && slices.Equal(a.Sources, b.Sources)
	})
}

func record(kind int, l ...api.Addr) api.Record {
	return api.Record{Kind: kind, Group: group, Sources: l}
}

// gone are the sources of l that are none of m's, rising.
func gone(l, m []api.Addr) []api.Addr {
	var out []api.Addr
	for _, s := range l {
		if !slices.Contains(m, s) && !slices.Contains(out, s) {
			out = append(out, s)
		}
	}
	slices.Sort(out)
	return out
}

// told are the records that the document tells of f and g.
func told(group api.Addr, f, g api.Filter) []api.Record {
	var l []api.Record
	add := func(kind int, sources []api.Addr) {
		if len(sources) > 0 {
			l = append(l, api.Record{Kind: kind, Group: group, Sources: sources})
		}
	}
	switch {
	case !f.Except && !g.Except:
		add(api.Allow, gone(g.Sources, f.Sources))
		add(api.Block, gone(f.Sources, g.Sources))
	case f.Except && g.Except:
		add(api.Allow, gone(f.Sources, g.Sources))
		add(api.Block, gone(g.Sources, f.Sources))
	case g.Except:
		l = []api.Record{{Kind: api.ToEx, Group: group, Sources: gone(g.Sources, nil)}}
	default:
		l = []api.Record{{Kind: api.ToIn, Group: group, Sources: gone(g.Sources, nil)}}
	}
	return l
}

// P11.3: each kind of change, with nothing to allow, nothing to block, neither and both.
func TestDiff(t *testing.T) {
	for i, c := range []struct {
		f, g api.Filter
		want []api.Record
	}{
		{some(), some(), nil},
		{but(), but(), nil},
		{some("a", "b"), some("b", "a", "a"), nil},
		{but("b", "a"), but("a", "b", "b"), nil},
		{some("a"), some(), []api.Record{record(api.Block, "a")}},
		{some(), some("a"), []api.Record{record(api.Allow, "a")}},
		{some("a", "b"), some("b", "c"), []api.Record{record(api.Allow, "c"), record(api.Block, "a")}},
		{some("d", "b", "a"), some("e", "b", "c"), []api.Record{record(api.Allow, "c", "e"), record(api.Block, "a", "d")}},
		{but("a"), but(), []api.Record{record(api.Allow, "a")}},
		{but(), but("a"), []api.Record{record(api.Block, "a")}},
		{but("a", "b"), but("b", "c"), []api.Record{record(api.Allow, "a"), record(api.Block, "c")}},
		{but("d", "b", "a"), but("e", "b", "c"), []api.Record{record(api.Allow, "a", "d"), record(api.Block, "c", "e")}},
		{some(), but(), []api.Record{record(api.ToEx)}},
		{but(), some(), []api.Record{record(api.ToIn)}},
		{some("a"), but("a"), []api.Record{record(api.ToEx, "a")}},
		{but("a"), some("a"), []api.Record{record(api.ToIn, "a")}},
		{some("a", "b"), but("c", "b", "c"), []api.Record{record(api.ToEx, "b", "c")}},
		{but("a", "b"), some("c", "", "b"), []api.Record{record(api.ToIn, "", "b", "c")}},
	} {
		if l := filter.Diff(group, c.f, c.g); !sameRecords(l, c.want) {
			t.Errorf("case %d: %v", i, l)
		}
	}
}

// P11.3: whatever the group is, it stands in each record.
func TestDiffNamesTheGroup(t *testing.T) {
	for _, g := range []api.Addr{"", "g", group, six, "\x0a\x00\x00\x01", api.Addr(make([]byte, 300))} {
		for _, c := range [][2]api.Filter{{some("a"), some("b")}, {but("a"), but("b")}, {some("a"), but("b")}, {but("a"), some("b")}} {
			l := filter.Diff(g, c[0], c[1])
			if len(l) == 0 || !sameRecords(l, told(g, c[0], c[1])) {
				t.Errorf("%x: %v", g, l)
			}
		}
	}
}

// P11.3: of each pair of filters, in their form or not.
func TestDiffOfEachPair(t *testing.T) {
	all := filters()
	for _, f := range all {
		for _, g := range all {
			l := filter.Diff(group, f, g)
			if !sameRecords(l, told(group, f, g)) {
				t.Errorf("%v, %v: %v", f, g, l)
			}
			if alike(filter.Norm(f), filter.Norm(g)) != (len(l) == 0) {
				t.Errorf("%v, %v: %d records", f, g, len(l))
			}
		}
	}
}

// after is what a listener has, who had f and heard the records.
func after(f api.Filter, l []api.Record) api.Filter {
	for _, r := range l {
		switch r.Kind {
		case api.ToIn:
			f = some(r.Sources...)
		case api.ToEx:
			f = but(r.Sources...)
		case api.Allow:
			f = filter.Or(f, some(r.Sources...))
		case api.Block:
			f = filter.And(f, but(r.Sources...))
		}
	}
	return f
}

// P11.3, P11.4: who hears the records that tell of a change has the filter that it led to.
func TestDiffLeadsFromOneToTheOther(t *testing.T) {
	all := filters()
	for _, f := range all {
		for _, g := range all {
			if has := after(f, filter.Diff(group, f, g)); !alike(filter.Norm(has), filter.Norm(g)) {
				t.Errorf("%v, %v: %v", f, g, has)
			}
		}
	}
}

// roomy is a list with room behind it, in which marks stand.
func roomy(l ...api.Addr) []api.Addr {
	whole := append(slices.Clone(l), "mark", "mark", "mark", "mark")
	return whole[:len(l)]
}

// untouched tells that a list of roomy must be as it was, its marks too.
func untouched(t *testing.T, name string, l []api.Addr, want ...api.Addr) {
	t.Helper()
	if !slices.Equal(l, want) || !slices.Equal(l[:len(l)+4][len(l):], []api.Addr{"mark", "mark", "mark", "mark"}) {
		t.Errorf("%s: %q", name, l[:len(l)+4])
	}
}

// spoil writes into a list, and into the room behind it.
func spoil(l []api.Addr) {
	l = l[:cap(l)]
	for i := range l {
		l[i] = "spoilt"
	}
}

// R5, P11.4: what is handed in is as it was, whatever its form; writing into an answer changes neither it nor the next answer.
func TestFiltersAreNewMemory(t *testing.T) {
	for _, l := range [][]api.Addr{{}, {"a"}, {"a", "b"}, {"b", "a", "b"}} {
		for _, m := range [][]api.Addr{{}, {"a"}, {"b", "c"}, {"c", "c", "a"}} {
			for except := range 4 {
				f := api.Filter{Except: except%2 == 1, Sources: roomy(l...)}
				g := api.Filter{Except: except/2 == 1, Sources: roomy(m...)}
				for name, call := range map[string]func() api.Filter{
					"Norm": func() api.Filter { return filter.Norm(f) },
					"Not":  func() api.Filter { return filter.Not(f) },
					"Or":   func() api.Filter { return filter.Or(f, g) },
					"And":  func() api.Filter { return filter.And(f, g) },
				} {
					first := call()
					was := copied(first)
					spoil(first.Sources)
					if again := call(); !alike(again, was) {
						t.Errorf("%s: %v, then %v", name, was, again)
					}
					untouched(t, name, f.Sources, l...)
					untouched(t, name, g.Sources, m...)
				}
				filter.Check(f)
				filter.Admits(f, "b")
				untouched(t, "Check, Admits", f.Sources, l...)
			}
		}
	}
}

// R5, P11.4: so it is with the records, of which no two share a list.
func TestRecordsAreNewMemory(t *testing.T) {
	for _, l := range [][]api.Addr{{}, {"a"}, {"b", "a", "b"}, {"d", "e", "f", "g"}} {
		for _, m := range [][]api.Addr{{}, {"b", "c"}, {"c", "c", "a"}, {"f", "h", "e"}} {
			for except := range 4 {
				f := api.Filter{Except: except%2 == 1, Sources: roomy(l...)}
				g := api.Filter{Except: except/2 == 1, Sources: roomy(m...)}
				want := told(group, f, g)
				records := filter.Diff(group, f, g)
				for i := range records {
					spoil(records[i].Sources)
					for k := i + 1; k < len(records); k++ {
						if !slices.Equal(records[k].Sources, want[k].Sources) {
							t.Errorf("%v, %v: record %d changed record %d", f, g, i, k)
						}
					}
				}
				clear(records[:cap(records)])
				untouched(t, "Diff", f.Sources, l...)
				untouched(t, "Diff", g.Sources, m...)
				if again := filter.Diff(group, f, g); !sameRecords(again, want) {
					t.Errorf("%v, %v: %v", f, g, again)
				}
			}
		}
	}
}

// R5: a filter that is handed in twice is as it was too.
func TestOneFilterTwice(t *testing.T) {
	f := but(roomy("b", "a", "b")...)
	if or, and, l := filter.Or(f, f), filter.And(f, f), filter.Diff(group, f, f); !alike(or, but("a", "b")) || !alike(and, but("a", "b")) || len(l) != 0 {
		t.Errorf("%v, %v, %v", or, and, l)
	}
	untouched(t, "twice", f.Sources, "b", "a", "b")
}
