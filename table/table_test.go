package table_test

import (
	"cmp"
	"math"
	"slices"
	"strings"
	"testing"
	"unsafe"

	"siphon/api"
	"siphon/ether"
	"siphon/group"
	"siphon/table"
)

const (
	g     = api.Addr("\xe0\x01\x02\x03")
	h     = api.Addr("\xef\xff\xff\xff")
	six   = api.Addr("\xff\x02\x00\x00\x00\x00\x00\x00\x00\x00\x00\x00\x00\x00\x00\x01")
	last  = 1 << 40
	lasts = 10 // Member of the tables that made makes
)

// made is a table with room for so many, a Member of 10 and a Last of 2.
func made(t *testing.T, room int) *table.Table {
	t.Helper()
	return timed(t, room, group.Times{Member: lasts, Last: 2})
}

func timed(t *testing.T, room int, times group.Times) *table.Table {
	t.Helper()
	d, e := table.New(room, times)
	if d == nil || e != api.OK {
		t.Fatalf("room %d, %v: %d", room, times, e)
	}
	return d
}

func key(v int, g api.Addr, port int) table.Key { return table.Key{Vlan: v, Group: g, Port: port} }

func record(kind int, g api.Addr, l ...api.Addr) api.Record {
	return api.Record{Kind: kind, Group: g, Sources: l}
}

func x(a api.Addr, at int) api.Timed { return api.Timed{Source: a, At: at} }

func in(l ...api.Timed) api.State { return api.State{Sources: l} }

func ex(at int, l ...api.Timed) api.State { return api.State{Except: true, At: at, Sources: l} }

func alike(a, b api.State) bool {
	return a.Except == b.Except && a.At == b.At && slices.Equal(a.Sources, b.Sources)
}

// takes tells that Report must be well, and ask just that.
func takes(t *testing.T, d *table.Table, v int, port int, r api.Record, now int, want group.Ask) {
	t.Helper()
	ask, e := d.Report(v, port, r, now)
	if e != api.OK || ask.Group != want.Group || !slices.Equal(ask.Sources, want.Sources) {
		t.Errorf("Report of %d, %d, %v, %d: %v, %d, not %v", v, port, r, now, ask, e, want)
	}
}

// refuses tells that Report must answer that error, ask nothing, and change no state.
func refuses(t *testing.T, d *table.Table, v int, port int, r api.Record, now int, want api.Errno) {
	t.Helper()
	was := d.Keys()
	var states []api.State
	for _, k := range was {
		s, _ := d.State(k)
		states = append(states, s)
	}
	ask, e := d.Report(v, port, r, now)
	if e != want || ask.Group || len(ask.Sources) > 0 {
		t.Errorf("Report of %d, %d, %v, %d: %v, %d, not %d", v, port, r, now, ask, e, want)
	}
	holds(t, d, was...)
	for i, k := range was {
		has(t, d, k, states[i])
	}
}

// joins lets all sources of a group through, at one more port.
func joins(t *testing.T, d *table.Table, v int, g api.Addr, port int, now int) {
	t.Helper()
	takes(t, d, v, port, record(api.IsEx, g), now, group.Ask{})
}

// holds tells that these must be all keys, in this order.
func holds(t *testing.T, d *table.Table, want ...table.Key) {
	t.Helper()
	if l := d.Keys(); !slices.Equal(l, want) {
		t.Errorf("keys %v, not %v", l, want)
	}
}

// has and lacks tell what State must answer.
func has(t *testing.T, d *table.Table, k table.Key, want api.State) {
	t.Helper()
	if s, is := d.State(k); !is || !alike(s, want) {
		t.Errorf("state of %v: %v, %v, not %v", k, s, is, want)
	}
}

func lacks(t *testing.T, d *table.Table, k table.Key) {
	t.Helper()
	if s, is := d.State(k); is || !alike(s, api.State{}) {
		t.Errorf("state of %v: %v, %v", k, s, is)
	}
}

// lets tells the ports at which a source must be let through.
func lets(t *testing.T, d *table.Table, v int, g api.Addr, a api.Addr, now int, want ...int) {
	t.Helper()
	if l := d.Ports(v, g, a, now); !slices.Equal(l, want) {
		t.Errorf("Ports of %d, %x, %q, %d: %v, not %v", v, g, a, now, l, want)
	}
}

func knows(t *testing.T, d *table.Table, v int, g api.Addr, now int, want bool) {
	t.Helper()
	if is := d.Known(v, g, now); is != want {
		t.Errorf("Known of %d, %x, %d: %v", v, g, now, is)
	}
}

func over(t *testing.T, d *table.Table, v int, now int, want bool) {
	t.Helper()
	if is := d.Over(v, now); is != want {
		t.Errorf("Over of %d, %d: %v", v, now, is)
	}
}

// removes, drops and expires tell what must go.
func removes(t *testing.T, d *table.Table, k table.Key, want bool) {
	t.Helper()
	if is := d.Remove(k); is != want {
		t.Errorf("Remove of %v: %v", k, is)
	}
	lacks(t, d, k)
}

func drops(t *testing.T, d *table.Table, port int, want int) {
	t.Helper()
	if n := d.Drop(port); n != want {
		t.Errorf("Drop of %d: %d, not %d", port, n, want)
	}
}

func expires(t *testing.T, d *table.Table, now int, want int) {
	t.Helper()
	if n := d.Expire(now); n != want {
		t.Errorf("Expire of %d: %d, not %d", now, n, want)
	}
}

// P18.1: of room, Member and Last the least and the greatest are well.
func TestNew(t *testing.T) {
	for _, room := range []int{1, 2, 4095, 4096} {
		for _, member := range []int{1, 2, 999999, 1000000} {
			for _, end := range []int{1, 2, 999999, 1000000} {
				d := timed(t, room, group.Times{Member: member, Last: end})
				holds(t, d)
				over(t, d, 1, 1, false)
				joins(t, d, 1, g, 0, 5)
				has(t, d, key(1, g, 0), ex(5+member))
				takes(t, d, 1, 0, record(api.ToIn, g, "a"), 5, group.Ask{Group: true})
				has(t, d, key(1, g, 0), ex(5+min(member, end), x("a", 5+member)))
			}
		}
	}
}

// P18.1, R3: what is beyond them is refused, whatever the others are.
func TestNewRefuses(t *testing.T) {
	refused := func(room int, times group.Times) {
		if d, e := table.New(room, times); d != nil || e != api.ErrArg {
			t.Errorf("room %d, %v: %v, %d", room, times, d, e)
		}
	}
	for _, n := range []int{0, -1, math.MinInt, math.MaxInt, 1<<32 + 1} {
		for _, well := range []int{1, 4096, 0} {
			refused(n, group.Times{Member: well, Last: 1})
			refused(well, group.Times{Member: n, Last: 1})
			refused(well, group.Times{Member: 1, Last: n})
		}
	}
	refused(4097, group.Times{Member: 1, Last: 1})
	refused(1, group.Times{Member: 1000001, Last: 1})
	refused(1, group.Times{Member: 1, Last: 1000001})
}

// nothing tells that no call may come to anything.
func nothing(t *testing.T, d *table.Table) {
	t.Helper()
	for _, now := range []int{0, 1, 5, last, last + 1, -1} {
		for _, v := range []int{0, 1, 4094, 4095} {
			for kind := range 8 {
				refuses(t, d, v, 0, record(kind, g), now, api.ErrArg)
			}
			lets(t, d, v, g, "a", now)
			knows(t, d, v, g, now, false)
			over(t, d, v, now, false)
		}
		expires(t, d, now, 0)
	}
	for _, port := range []int{-1, 0, 15, 16} {
		drops(t, d, port, 0)
		lacks(t, d, key(1, g, port))
		removes(t, d, key(1, g, port), false)
	}
	holds(t, d)
}

// P18.1: all calls of a nil table.
func TestNilTable(t *testing.T) { nothing(t, nil) }

// R1: a table that New did not make.
func TestTableOfNoughts(t *testing.T) { nothing(t, new(table.Table)) }

// P18.2: the document's example.
func TestTheDocumentsExample(t *testing.T) {
	d := made(t, 1)
	joins(t, d, 1, g, 0, 5)
	refuses(t, d, 1, 0, record(api.IsEx, h), 5, api.ErrFull)
	over(t, d, 1, 5, true)
}

// P18.2: a VLAN, a port, a time and a group at their edges.
func TestReportAtTheEdges(t *testing.T) {
	d := made(t, 1)
	for _, v := range []int{1, 2, 4093, 4094} {
		for _, port := range []int{0, 1, 14, 15} {
			for _, now := range []int{1, 2, last - 1, last} {
				for _, a := range []api.Addr{g, h, "\xe0\x00\x00\x00", six, "\xff" + six[1:15] + "\xff", "\xff\x00" + six[2:]} {
					joins(t, d, v, a, port, now)
					holds(t, d, key(v, a, port))
					has(t, d, key(v, a, port), ex(now+lasts))
					removes(t, d, key(v, a, port), true)
				}
			}
		}
	}
}

// P18.2, R2: what is beyond them is ErrArg, of an empty table, one with room and a full one, and no VLAN becomes over.
func TestReportRefuses(t *testing.T) {
	d := made(t, 2)
	for fill := range 3 {
		if fill > 0 {
			takes(t, d, 1, fill, record(api.ToIn, g, "a"), 5, group.Ask{})
		}
		for _, v := range []int{0, -1, 4095, 4096, math.MinInt, math.MaxInt, 1<<32 + 1} {
			refuses(t, d, v, 1, record(api.IsEx, g), 6, api.ErrArg)
			over(t, d, v, 6, false)
		}
		for _, port := range []int{-1, 16, 17, math.MinInt, math.MaxInt, 1 << 32} {
			refuses(t, d, 1, port, record(api.IsEx, g), 6, api.ErrArg)
		}
		for _, now := range []int{0, -1, last + 1, math.MinInt, math.MaxInt} {
			refuses(t, d, 1, 1, record(api.IsEx, g), now, api.ErrArg)
		}
		for _, wrong := range []api.Addr{"", "\xe0", g[:3], g + "\x00", "\xdf\xff\xff\xff", "\xf0\x00\x00\x00", six[:15], six + "\x01", "\xfe" + six[1:], "abcd", "\xe0" + six[1:]} {
			if _, e := ether.Group(wrong); e == api.OK {
				t.Errorf("%x is a group", wrong)
			}
			refuses(t, d, 1, 1, record(api.IsEx, wrong), 6, api.ErrArg)
		}
		for _, kind := range []int{0, -1, 7, math.MinInt, math.MaxInt} {
			refuses(t, d, 1, 1, record(kind, g), 6, api.ErrArg)
			refuses(t, d, 1, 9, record(kind, g), 6, api.ErrArg)
		}
		refuses(t, d, 1, 1, record(api.IsIn, g, slices.Repeat([]api.Addr{"a"}, 61)...), 6, api.ErrArg)
		refuses(t, d, 1, 9, record(api.IsEx, g, sources(61)...), 6, api.ErrArg)
		over(t, d, 1, 6, false)
	}
}

// sources are so many, rising.
func sources(n int) []api.Addr {
	var l []api.Addr
	for i := range n {
		l = append(l, api.Addr([]byte{10, 0, 0, byte(i)}))
	}
	return l
}

// P18.2: a state that would have 61 sources is as it was.
func TestReportOfTooManySources(t *testing.T) {
	d := made(t, 1)
	takes(t, d, 1, 3, record(api.IsIn, g, sources(60)...), 5, group.Ask{})
	refuses(t, d, 1, 3, record(api.IsIn, g, "more"), 6, api.ErrArg)
	refuses(t, d, 1, 3, record(api.ToIn, g, sources(61)[1:]...), 6, api.ErrArg)
	over(t, d, 1, 6, false)
	// What is old is none of them: all of it goes at 15.
	takes(t, d, 1, 3, record(api.IsIn, g, "more"), 15, group.Ask{})
	has(t, d, key(1, g, 3), in(x("more", 25)))
}

// P18.2: what is kept becomes what group.Apply makes of it, as group.Expire lets it be then.
func TestReportAppliesToWhatIsLeft(t *testing.T) {
	d := made(t, 4)
	k := key(7, g, 2)
	takes(t, d, 7, 2, record(api.ToEx, g, "b", "a", "b"), 5, group.Ask{})
	has(t, d, k, ex(15, x("a", 0), x("b", 0)))
	takes(t, d, 7, 2, record(api.Allow, g, "c", "a"), 6, group.Ask{})
	has(t, d, k, ex(15, x("a", 16), x("b", 0), x("c", 16)))
	takes(t, d, 7, 2, record(api.ToIn, g, "c"), 8, group.Ask{Group: true, Sources: []api.Addr{"a"}})
	has(t, d, k, ex(10, x("a", 10), x("b", 0), x("c", 18)))
	takes(t, d, 7, 2, record(api.Block, g, "a", "c", "d"), 10, group.Ask{Sources: []api.Addr{"c"}}) // Except is over, a is gone
	has(t, d, k, in(x("c", 12)))
	takes(t, d, 7, 2, record(api.Block, g, "c"), 11, group.Ask{Sources: []api.Addr{"c"}})
	has(t, d, k, in(x("c", 12)))
	takes(t, d, 7, 2, record(api.IsEx, g, "c"), 12, group.Ask{}) // all is gone: c is new
	has(t, d, k, ex(22, x("c", 0)))
	takes(t, d, 7, 2, record(api.ToEx, g, "d"), 21, group.Ask{Sources: []api.Addr{"d"}})
	has(t, d, k, ex(31, x("d", 22)))
	holds(t, d, k)
}

// P18.2: a record that comes to none leaves none, also in the place of what is old, and in a full table.
func TestReportOfNothing(t *testing.T) {
	for _, kind := range []int{api.IsIn, api.ToIn, api.Allow, api.Block} {
		d := made(t, 1)
		takes(t, d, 1, 3, record(kind, g), 5, group.Ask{})
		holds(t, d)
		joins(t, d, 1, g, 3, 5)
		takes(t, d, 1, 4, record(kind, g), 5, group.Ask{})
		takes(t, d, 1, 3, record(kind, h), 5, group.Ask{})
		takes(t, d, 2, 3, record(kind, g), 5, group.Ask{})
		holds(t, d, key(1, g, 3))
		over(t, d, 1, 5, false)
		over(t, d, 2, 5, false)
		takes(t, d, 1, 3, record(kind, g), 15, group.Ask{})
		lacks(t, d, key(1, g, 3))
		holds(t, d)
		joins(t, d, 2, h, 3, 15)
	}
	d := made(t, 1)
	takes(t, d, 1, 3, record(api.Block, g, "a", "b"), 5, group.Ask{})
	holds(t, d)
}

// P18.2: a full table takes what stands in it, be it old or not, and nothing else; what is old takes room till it goes.
func TestFullTable(t *testing.T) {
	for _, room := range []int{1, 2, 16, 60} {
		d := made(t, room)
		var want []table.Key
		for n := range room {
			joins(t, d, 1+n/16, g, n%16, 5)
			want = append(want, key(1+n/16, g, n%16))
		}
		holds(t, d, want...)
		refuses(t, d, 9, 3, record(api.IsEx, g), 6, api.ErrFull)
		refuses(t, d, 1, 0, record(api.IsIn, h, "a"), 6, api.ErrFull)
		refuses(t, d, 1, 0, record(api.ToEx, six), 6, api.ErrFull)
		refuses(t, d, 10, 3, record(api.Allow, g, "a"), 40, api.ErrFull) // all that stands there is old
		joins(t, d, 1, g, 0, 7)
		has(t, d, want[0], ex(17))
		takes(t, d, 1, 0, record(api.IsIn, g, "a"), 17, group.Ask{}) // it is old, and stands there still
		has(t, d, want[0], in(x("a", 27)))
		refuses(t, d, 11, 3, record(api.IsEx, g), 18, api.ErrFull)
		takes(t, d, 1, 0, record(api.Block, g), 27, group.Ask{})
		joins(t, d, 11, g, 3, 28)
		holds(t, d, append(want[1:], key(11, g, 3))...)
	}
}

// P18.1, P18.5: tables of the greatest room are full with so many, and not with one less.
func TestGreatestRoom(t *testing.T) {
	for _, room := range []int{4095, 4096} {
		d := made(t, room)
		for n := range room {
			joins(t, d, 1+n/16, h, n%16, 9)
		}
		refuses(t, d, 4094, 0, record(api.IsEx, h), 9, api.ErrFull)
		if l := d.Keys(); len(l) != room {
			t.Errorf("%d", len(l))
		}
		removes(t, d, key(1, h, 0), true)
		joins(t, d, 4094, h, 0, 9)
		expires(t, d, 18, 0)
		expires(t, d, 19, room)
	}
}

// P18.3: a VLAN is over from what a full table refused on, for Member, and at any time ahead; what was refused last counts.
func TestOver(t *testing.T) {
	d := made(t, 1)
	joins(t, d, 1, g, 0, 20)
	over(t, d, 1, 20, false)
	refuses(t, d, 2, 0, record(api.IsEx, g), 20, api.ErrFull)
	for _, now := range []int{math.MinInt, -1, 0, 1, 19, 20, 21, 28, 29} {
		over(t, d, 2, now, true)
	}
	for _, now := range []int{30, 31, last, last + 1, math.MaxInt} {
		over(t, d, 2, now, false)
	}
	for _, v := range []int{1, 3, 0, -1, 4094, 4095} {
		over(t, d, v, 20, false)
		over(t, d, v, 0, false)
	}
	joins(t, d, 1, g, 0, 25) // what stands there is not refused
	over(t, d, 1, 25, false)
	over(t, d, 2, 30, false)
	refuses(t, d, 2, 0, record(api.IsEx, g), 26, api.ErrFull)
	over(t, d, 2, 35, true)
	over(t, d, 2, 36, false)
	refuses(t, d, 2, 0, record(api.IsEx, g), 90, api.ErrFull) // over again
	over(t, d, 2, 36, true)
	over(t, d, 2, 99, true)
	over(t, d, 2, 100, false)
	refuses(t, d, 2, 0, record(api.IsEx, g), 80, api.ErrFull) // the last time, be it earlier
	over(t, d, 2, 89, true)
	over(t, d, 2, 90, false)
}

// P18.3: a VLAN that is over stays so, whatever goes or comes.
func TestOverStays(t *testing.T) {
	d := made(t, 1)
	joins(t, d, 2, g, 0, 20)
	refuses(t, d, 2, 1, record(api.IsEx, g), 20, api.ErrFull)
	drops(t, d, 0, 1)
	over(t, d, 2, 29, true)
	joins(t, d, 2, g, 1, 21)
	over(t, d, 2, 29, true)
	removes(t, d, key(2, g, 1), true)
	expires(t, d, 30, 0)
	over(t, d, 2, 30, false)
	over(t, d, 2, 29, true)
	for _, member := range []int{1, 1000000} {
		d := timed(t, 1, group.Times{Member: member, Last: 1})
		joins(t, d, 1, g, 0, 1)
		refuses(t, d, 4094, 0, record(api.IsEx, g), last, api.ErrFull)
		over(t, d, 4094, last+member-1, true)
		over(t, d, 4094, last+member, false)
	}
}

// P18.3: ports rise, each goes by its own state, and is left out just when that is old.
func TestPorts(t *testing.T) {
	d := made(t, 20)
	joins(t, d, 1, g, 15, 5)
	takes(t, d, 1, 9, record(api.IsIn, g, "a", "b"), 6, group.Ask{})
	takes(t, d, 1, 0, record(api.IsEx, g, "a"), 7, group.Ask{})
	takes(t, d, 1, 10, record(api.IsIn, g, "b"), 4, group.Ask{})
	joins(t, d, 2, g, 1, 7)
	joins(t, d, 1, h, 2, 7)
	joins(t, d, 1, six, 3, 7)
	lets(t, d, 1, g, "a", 7, 9, 15)
	lets(t, d, 1, g, "b", 7, 0, 9, 10, 15)
	lets(t, d, 1, g, "c", 7, 0, 15)
	lets(t, d, 1, g, "", 7, 0, 15)
	lets(t, d, 1, g, "b", 13, 0, 9, 10, 15)
	lets(t, d, 1, g, "b", 14, 0, 9, 15)
	lets(t, d, 1, g, "b", 15, 0, 9)
	lets(t, d, 1, g, "b", 16, 0)
	lets(t, d, 1, g, "b", 17)
	lets(t, d, 1, g, "b", -1, 0, 9, 10, 15)
	lets(t, d, 1, g, "b", math.MinInt, 0, 9, 10, 15)
	lets(t, d, 1, g, "b", math.MaxInt)
	lets(t, d, 2, g, "a", 7, 1)
	lets(t, d, 1, h, "a", 7, 2)
	lets(t, d, 1, six, "a", 7, 3)
	for _, v := range []int{0, 3, -1, 4095, math.MaxInt} {
		lets(t, d, v, g, "a", 7)
	}
	for _, a := range []api.Addr{"", g[:3], g + "\x00", "abcd"} {
		lets(t, d, 1, a, "a", 7)
	}
	// To look changes nothing.
	lets(t, d, 1, g, "b", 7, 0, 9, 10, 15)
}

// P18.3: at each port, and at all of them.
func TestAllPorts(t *testing.T) {
	d := made(t, 16)
	var want []int
	for port := range 16 {
		lets(t, d, 1, g, "a", 5, want...)
		joins(t, d, 1, g, port, 5)
		want = append(want, port)
	}
	lets(t, d, 1, g, "a", 5, want...)
}

// P18.3: a group is known while some port's state of it is not old, be anything let through or not.
func TestKnown(t *testing.T) {
	d := made(t, 20)
	knows(t, d, 1, g, 5, false)
	takes(t, d, 1, 15, record(api.IsIn, g, "a"), 5, group.Ask{})
	takes(t, d, 1, 2, record(api.IsEx, g, "a"), 3, group.Ask{})
	knows(t, d, 1, g, 5, true)
	knows(t, d, 1, g, 12, true)
	knows(t, d, 1, g, 13, true)
	knows(t, d, 1, g, 14, true)
	knows(t, d, 1, g, 15, false)
	knows(t, d, 1, g, 16, false)
	knows(t, d, 1, g, 0, true)
	knows(t, d, 1, g, math.MinInt, true)
	knows(t, d, 1, g, math.MaxInt, false)
	knows(t, d, 1, h, 5, false)
	knows(t, d, 2, g, 5, false)
	knows(t, d, 0, g, 5, false)
	knows(t, d, 4095, g, 5, false)
	knows(t, d, 1, "", 5, false)
	knows(t, d, 1, g, 14, true) // to look changes nothing
	drops(t, d, 15, 1)
	knows(t, d, 1, g, 12, true)
	knows(t, d, 1, g, 13, false)
	removes(t, d, key(1, g, 2), true)
	knows(t, d, 1, g, 5, false)
	// A state that lets nothing through that anybody sends is known.
	takes(t, d, 1, 2, record(api.IsEx, h, "a"), 3, group.Ask{})
	lets(t, d, 1, h, "a", 3)
	knows(t, d, 1, h, 3, true)
}

// P18.4: a state is told as it was kept, old or not, and Remove takes just that one.
func TestStateAndRemove(t *testing.T) {
	d := made(t, 9)
	takes(t, d, 1, 3, record(api.IsEx, g, "b", "a"), 5, group.Ask{})
	joins(t, d, 1, g, 4, 6)
	joins(t, d, 1, h, 3, 7)
	joins(t, d, 2, g, 3, 8)
	has(t, d, key(1, g, 3), ex(15, x("a", 0), x("b", 0)))
	has(t, d, key(1, g, 4), ex(16))
	has(t, d, key(1, h, 3), ex(17))
	has(t, d, key(2, g, 3), ex(18))
	lets(t, d, 1, g, "c", 90)
	has(t, d, key(1, g, 3), ex(15, x("a", 0), x("b", 0)))
	for _, k := range []table.Key{{}, key(0, g, 3), key(3, g, 3), key(1, g, 5), key(1, g, -1), key(1, g, 16), key(1, six, 3), key(1, "", 3), key(1, g+"\x00", 3), key(2, h, 3), key(math.MaxInt, g, math.MinInt)} {
		lacks(t, d, k)
		removes(t, d, k, false)
	}
	holds(t, d, key(1, g, 3), key(1, g, 4), key(1, h, 3), key(2, g, 3))
	removes(t, d, key(1, g, 3), true)
	holds(t, d, key(1, g, 4), key(1, h, 3), key(2, g, 3))
	removes(t, d, key(1, g, 3), false)
	lets(t, d, 1, g, "c", 7, 4)
	has(t, d, key(1, h, 3), ex(17))
}

// P18.4: Drop of ports with no states, one, and all of them.
func TestDrop(t *testing.T) {
	d := made(t, 9)
	for _, port := range []int{-1, 0, 15, 16} {
		drops(t, d, port, 0)
	}
	joins(t, d, 1, g, 0, 5)
	joins(t, d, 1, g, 15, 5)
	joins(t, d, 2, g, 15, 1)
	joins(t, d, 1, six, 15, 90)
	for _, port := range []int{1, 14, -1, 16, math.MinInt, math.MaxInt, 1 << 32} {
		drops(t, d, port, 0)
	}
	holds(t, d, key(1, g, 0), key(1, g, 15), key(1, six, 15), key(2, g, 15))
	drops(t, d, 15, 3)
	drops(t, d, 15, 0)
	holds(t, d, key(1, g, 0))
	drops(t, d, 0, 1)
	holds(t, d)
	joins(t, d, 1, g, 15, 5)
	holds(t, d, key(1, g, 15))
}

// P18.4: all states become what is left of them then; those that go are counted.
func TestExpire(t *testing.T) {
	d := made(t, 9)
	takes(t, d, 1, 1, record(api.IsIn, g, "a", "b"), 5, group.Ask{})
	takes(t, d, 1, 1, record(api.IsIn, g, "b"), 7, group.Ask{})
	takes(t, d, 1, 2, record(api.IsEx, g, "y"), 5, group.Ask{})
	takes(t, d, 1, 2, record(api.Allow, g, "r"), 6, group.Ask{})
	takes(t, d, 2, 3, record(api.IsEx, h), 6, group.Ask{})
	takes(t, d, 2, 4, record(api.Allow, h, "r"), 4, group.Ask{})
	takes(t, d, 2, 4, record(api.IsEx, h, "r"), 5, group.Ask{})
	takes(t, d, 2, 4, record(api.IsEx, h, "r"), 8, group.Ask{})
	expires(t, d, 13, 0)
	has(t, d, key(1, g, 1), in(x("a", 15), x("b", 17)))
	has(t, d, key(2, h, 4), ex(18, x("r", 14)))
	expires(t, d, 14, 0)
	has(t, d, key(2, h, 4), ex(18, x("r", 0)))
	has(t, d, key(1, g, 2), ex(15, x("r", 16), x("y", 0)))
	expires(t, d, 15, 0)
	has(t, d, key(1, g, 1), in(x("b", 17)))
	has(t, d, key(1, g, 2), in(x("r", 16)))
	expires(t, d, 16, 2)
	holds(t, d, key(1, g, 1), key(2, h, 4))
	expires(t, d, 16, 0)
	expires(t, d, 90, 2)
	holds(t, d)
	expires(t, d, 90, 0)
}

// P18.4: at a time that may not be nothing is done.
func TestExpireAtWrongTimes(t *testing.T) {
	d := made(t, 9)
	joins(t, d, 1, g, 1, 1)
	takes(t, d, 1, 2, record(api.IsIn, g, "a"), last, group.Ask{})
	for _, now := range []int{0, -1, last + 1, last + 90, math.MinInt, math.MaxInt} {
		expires(t, d, now, 0)
		holds(t, d, key(1, g, 1), key(1, g, 2))
	}
	expires(t, d, 1, 0)
	expires(t, d, last, 1)
	has(t, d, key(1, g, 2), in(x("a", last+lasts)))
	holds(t, d, key(1, g, 2))
}

// P18.4: keys stand by Vlan as a number, of one by Group as a text, of one by Port as a number.
func TestKeysInOrder(t *testing.T) {
	want := []table.Key{
		key(1, "\xe0\x00\x00\x00", 9), key(1, g, 2), key(1, g, 10), key(1, g, 15), key(1, "\xe0\x01\x02\x04", 0), key(1, h, 1), key(1, six, 0),
		key(2, "\xe0\x7f\x00\x00", 3), key(2, "\xe0\x80\x00\x00", 0), key(10, g, 0), key(256, g, 0), key(4094, "\xe0\x00\x00\x00", 0), key(4094, six, 15),
	}
	for turn := range len(want) {
		d := made(t, len(want))
		for i := range want {
			k := want[(i*5+turn)%len(want)]
			joins(t, d, k.Vlan, k.Group, k.Port, 5)
		}
		holds(t, d, want...)
		holds(t, d, want...)
	}
}

// P18.5: what one port says changes nothing at another one, nor in another VLAN or group.
func TestPortsAreApart(t *testing.T) {
	d := made(t, 50)
	takes(t, d, 1, 3, record(api.IsEx, g, "a"), 5, group.Ask{})
	takes(t, d, 1, 4, record(api.IsIn, g, "a"), 5, group.Ask{})
	for kind := api.IsIn; kind <= api.Block; kind++ {
		for _, k := range []table.Key{key(1, g, 2), key(1, g, 5), key(2, g, 3), key(1, h, 3), key(1, six, 4)} {
			if _, e := d.Report(k.Vlan, k.Port, record(kind, k.Group, "a", "b"), 6); e != api.OK {
				t.Errorf("%v: %d", k, e)
			}
			d.Report(k.Vlan, k.Port, record(kind, k.Group), 7)
			has(t, d, key(1, g, 3), ex(15, x("a", 0)))
			has(t, d, key(1, g, 4), in(x("a", 15)))
		}
	}
}

// R6: tables side by side know nothing of one another.
func TestTablesSideBySide(t *testing.T) {
	p, q := made(t, 1), made(t, 2)
	joins(t, p, 1, g, 3, 5)
	holds(t, q)
	joins(t, q, 1, h, 3, 6)
	refuses(t, p, 2, 3, record(api.IsEx, h), 6, api.ErrFull)
	over(t, q, 2, 6, false)
	expires(t, p, 15, 1)
	holds(t, q, key(1, h, 3))
}

// R5: what is handed in is as it was; writing into it or into an answer changes nothing that is kept.
func TestAnswersAreNewMemory(t *testing.T) {
	d := made(t, 9)
	r := record(api.IsIn, g, append(make([]api.Addr, 0, 9), "c", "a", "b", "a")...)
	takes(t, d, 1, 3, r, 5, group.Ask{})
	if !slices.Equal(r.Sources[:9], []api.Addr{"c", "a", "b", "a", "", "", "", "", ""}) {
		t.Errorf("%q", r.Sources[:9])
	}
	clear(r.Sources[:9])
	want := in(x("a", 15), x("b", 15), x("c", 15))
	has(t, d, key(1, g, 3), want)
	for range 2 {
		s, _ := d.State(key(1, g, 3))
		clear(s.Sources[:cap(s.Sources)])
		has(t, d, key(1, g, 3), want)
		l := d.Keys()
		clear(l[:cap(l)])
		holds(t, d, key(1, g, 3))
		ports := d.Ports(1, g, "a", 5)
		clear(ports[:cap(ports)])
		lets(t, d, 1, g, "a", 5, 3)
	}
	was, _ := d.State(key(1, g, 3))
	ask, _ := d.Report(1, 3, record(api.Block, g, "a", "b"), 6)
	clear(ask.Sources[:cap(ask.Sources)])
	has(t, d, key(1, g, 3), in(x("a", 8), x("b", 8), x("c", 15)))
	if !alike(was, want) {
		t.Errorf("%v", was)
	}
	was, _ = d.State(key(1, g, 3))
	expires(t, d, 8, 0)
	if !alike(was, in(x("a", 8), x("b", 8), x("c", 15))) {
		t.Errorf("%v", was)
	}
}

// R5: addresses that are pieces of a frame are kept by themselves, also where they come again; the frame is not.
func TestFramesAreNotKept(t *testing.T) {
	d := made(t, 9)
	for now := 1; now < 4; now++ {
		frame := strings.Repeat(string(g)+"abcd", 300)
		takes(t, d, 1, 3, record(api.IsIn, api.Addr(frame[800:804]), api.Addr(frame[804:808])), now, group.Ask{})
		s, _ := d.State(key(1, g, 3))
		begin := uintptr(unsafe.Pointer(unsafe.StringData(frame)))
		for _, kept := range []api.Addr{d.Keys()[0].Group, s.Sources[0].Source} {
			at := uintptr(unsafe.Pointer(unsafe.StringData(string(kept))))
			if begin <= at && at < begin+uintptr(len(frame)) {
				t.Errorf("at %d: a piece of the frame is kept", now)
			}
		}
	}
}

// byPlace is the order of keys.
func byPlace(a, b table.Key) int {
	return cmp.Or(a.Vlan-b.Vlan, strings.Compare(string(a.Group), string(b.Group)), a.Port-b.Port)
}
