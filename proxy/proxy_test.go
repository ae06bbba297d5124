package proxy_test

import (
	"math"
	"slices"
	"strings"
	"testing"
	"unsafe"

	"siphon/api"
	"siphon/ether"
	"siphon/proxy"
)

const (
	g   = api.Addr("\xe0\x01\x02\x03")
	h   = api.Addr("\xef\xff\xff\xff")
	six = api.Addr("\xff\x02\x00\x00\x00\x00\x00\x00\x00\x00\x00\x00\x00\x00\x00\x01")
)

// made is a proxy with room for so many.
func made(t *testing.T, room int) *proxy.Proxy {
	t.Helper()
	p, e := proxy.New(room)
	if p == nil || e != api.OK {
		t.Fatalf("room %d: %v, %d", room, p, e)
	}
	return p
}

func record(kind int, g api.Addr, l ...api.Addr) api.Record {
	return api.Record{Kind: kind, Group: g, Sources: l}
}

func same(l, m []api.Record) bool {
	return slices.EqualFunc(l, m, func(a, b api.Record) bool {
		return a.Kind == b.Kind && a.Group == b.Group && slices.Equal(a.Sources, b.Sources)
	})
}

// tells tells that Tell must be well, and answer just these records.
func tells(t *testing.T, p *proxy.Proxy, v int, g api.Addr, f api.Filter, want ...api.Record) {
	t.Helper()
	if l, e := p.Tell(v, g, f); e != api.OK || !same(l, want) {
		t.Errorf("Tell of %d, %x, %v: %v, %d, not %v", v, g, f, l, e, want)
	}
}

// refuses tells that Tell must answer that error, no record, and change nothing of some VLANs.
func refuses(t *testing.T, p *proxy.Proxy, v int, g api.Addr, f api.Filter, want api.Errno) {
	t.Helper()
	var was [][]api.Record
	vlans := []int{0, 1, 2, 3, 4094, v}
	for _, v := range vlans {
		was = append(was, p.All(v))
	}
	if l, e := p.Tell(v, g, f); e != want || len(l) > 0 {
		t.Errorf("Tell of %d, %x, %v: %v, %d, not %d", v, g, f, l, e, want)
	}
	for i, v := range vlans {
		holds(t, p, v, was[i]...)
	}
}

// holds tells that All must answer just these records, in this order.
func holds(t *testing.T, p *proxy.Proxy, v int, want ...api.Record) {
	t.Helper()
	if l := p.All(v); !same(l, want) {
		t.Errorf("All of %d: %v, not %v", v, l, want)
	}
}

// forgets tells of how many groups something must have been told.
func forgets(t *testing.T, p *proxy.Proxy, v int, want int) {
	t.Helper()
	if n := p.Forget(v); n != want {
		t.Errorf("Forget of %d: %d, not %d", v, n, want)
	}
	holds(t, p, v)
}

// address is the n-th group of four bytes.
func address(n int) api.Addr { return api.Addr([]byte{0xe1, 0, byte(n >> 8), byte(n)}) }

// P21.2, P21.3: of room the least and the greatest are well, there is just so much of it, and nothing is told at first.
func TestNew(t *testing.T) {
	for _, room := range []int{1, 2, 3, 4095, 4096} {
		p := made(t, room)
		for v := range 4096 {
			holds(t, p, v)
		}
		for n := range room {
			tells(t, p, 1+n%4094, address(n), but("a"), record(api.ToEx, address(n), "a"))
		}
		refuses(t, p, 4094, h, but(), api.ErrFull)
		tells(t, p, 1, address(0), some("a"), record(api.ToIn, address(0), "a"))
		tells(t, p, 1, address(0), some(), record(api.Block, address(0), "a"))
		tells(t, p, 4094, h, but(), record(api.ToEx, h))
		refuses(t, p, 4094, g, some("a"), api.ErrFull)
	}
}

// P21.2, R3: what is beyond them is refused.
func TestNewRefuses(t *testing.T) {
	for _, room := range []int{0, -1, 4097, 4098, -4096, math.MinInt, math.MaxInt, 1<<32 + 1} {
		if p, e := proxy.New(room); p != nil || e != api.ErrArg {
			t.Errorf("room %d: %v, %d", room, p, e)
		}
	}
}

// P21.2: all calls of nil.
func TestNilProxy(t *testing.T) {
	for _, v := range []int{math.MinInt, -1, 0, 1, 4094, 4095, math.MaxInt} {
		for _, a := range []api.Addr{g, h, six, "", "abcd"} {
			for _, f := range []api.Filter{some(), some("a"), but(), but("a")} {
				refuses(t, nil, v, a, f, api.ErrArg)
			}
		}
		forgets(t, nil, v, 0)
		holds(t, nil, v)
	}
}

// R1: a proxy that New did not make has no room.
func TestProxyOfNoughts(t *testing.T) {
	p := new(proxy.Proxy)
	for _, f := range []api.Filter{some("a"), but(), but("a")} {
		refuses(t, p, 1, g, f, api.ErrFull)
		refuses(t, p, 0, g, f, api.ErrArg)
		forgets(t, p, 1, 0)
	}
	tells(t, p, 1, g, some())
	holds(t, p, 1)
}

// P21.3: a VLAN and a group at their edges.
func TestTellAtTheEdges(t *testing.T) {
	for _, v := range []int{1, 2, 4093, 4094} {
		for _, a := range []api.Addr{g, h, "\xe0\x00\x00\x00", six, "\xff" + six[1:15] + "\xff", api.Addr("\xff" + strings.Repeat("\x00", 15))} {
			p := made(t, 1)
			tells(t, p, v, a, some())
			holds(t, p, v)
			tells(t, p, v, a, some("b", "a"), record(api.Allow, a, "a", "b"))
			holds(t, p, v, record(api.IsIn, a, "a", "b"))
			tells(t, p, v, a, but("x"), record(api.ToEx, a, "x"))
			holds(t, p, v, record(api.IsEx, a, "x"))
			forgets(t, p, v, 1)
		}
	}
}

// P21.3, R2: what is beyond them is ErrArg, of an empty proxy, one with room and a full one, whatever the filter.
func TestTellRefuses(t *testing.T) {
	p := made(t, 2)
	for fill := range 3 {
		if fill > 0 {
			tells(t, p, fill, g, some("a"), record(api.Allow, g, "a"))
		}
		for _, f := range []api.Filter{some(), some("a"), but(), but("a", "b")} {
			for _, v := range []int{0, -1, 4095, 4096, math.MinInt, math.MaxInt, 1<<32 + 1} {
				refuses(t, p, v, g, f, api.ErrArg)
				refuses(t, p, v, "", f, api.ErrArg)
			}
			for _, wrong := range []api.Addr{"", "\xe0", g[:3], g + "\x00", "\xdf\xff\xff\xff", "\xf0\x00\x00\x00", "\xff\x02\x00\x01", six[:15], six + "\x01", "\xfe" + six[1:], "abcd", "\xe0" + six[1:], "\x00\x00\x00\x00"} {
				if _, e := ether.Group(wrong); e == api.OK {
					t.Errorf("%x is a group", wrong)
				}
				refuses(t, p, 1, wrong, f, api.ErrArg)
				refuses(t, p, 4094, wrong, f, api.ErrArg)
			}
		}
	}
}

// P21.3: from each filter to each other one, with nothing, some, all but some and all, in their form or not.
func TestTellOfAChange(t *testing.T) {
	for i, c := range []struct {
		was, f api.Filter
		want   []api.Record
	}{
		{some(), some(), nil},
		{some(), some("a"), []api.Record{record(api.Allow, g, "a")}},
		{some(), some("b", "a", "b"), []api.Record{record(api.Allow, g, "a", "b")}},
		{some(), but(), []api.Record{record(api.ToEx, g)}},
		{some(), but("b", "a", "b"), []api.Record{record(api.ToEx, g, "a", "b")}},
		{some("a"), some(), []api.Record{record(api.Block, g, "a")}},
		{some("b", "a"), some("a", "a", "b"), nil},
		{some("a", "b"), some("c", "b"), []api.Record{record(api.Allow, g, "c"), record(api.Block, g, "a")}},
		{some("a", "b", "c"), some("b"), []api.Record{record(api.Block, g, "a", "c")}},
		{some("a", "b"), but("a"), []api.Record{record(api.ToEx, g, "a")}},
		{some("a"), but(), []api.Record{record(api.ToEx, g)}},
		{but(), some(), []api.Record{record(api.ToIn, g)}},
		{but("a"), some(), []api.Record{record(api.ToIn, g)}},
		{but("a"), some("b", "a"), []api.Record{record(api.ToIn, g, "a", "b")}},
		{but(), but(), nil},
		{but("b", "a"), but("a", "b", "a"), nil},
		{but("a", "b"), but("c", "b"), []api.Record{record(api.Allow, g, "a"), record(api.Block, g, "c")}},
		{but("a"), but(), []api.Record{record(api.Allow, g, "a")}},
		{but(), but("a"), []api.Record{record(api.Block, g, "a")}},
	} {
		p := made(t, 1)
		if _, e := p.Tell(7, g, c.was); e != api.OK {
			t.Errorf("case %d: %d", i, e)
		}
		tells(t, p, 7, g, c.f, c.want...)
		tells(t, p, 7, g, c.f) // the same again
		switch {
		case c.f.Except:
			holds(t, p, 7, record(api.IsEx, g, rising(c.f.Sources)...))
		case len(c.f.Sources) > 0:
			holds(t, p, 7, record(api.IsIn, g, rising(c.f.Sources)...))
		default:
			holds(t, p, 7)
		}
	}
}

// rising is a new list of the same texts, each once.
func rising(l []api.Addr) []api.Addr {
	l = slices.Clone(l)
	slices.Sort(l)
	return slices.Compact(l)
}

// P21.3: what is told of a group says nothing of another one, nor of that group in another VLAN.
func TestGroupsAreApart(t *testing.T) {
	p := made(t, 9)
	tells(t, p, 1, g, but("a"), record(api.ToEx, g, "a"))
	tells(t, p, 2, g, but("a"), record(api.ToEx, g, "a"))
	tells(t, p, 1, h, some("a"), record(api.Allow, h, "a"))
	tells(t, p, 1, six, but(), record(api.ToEx, six))
	tells(t, p, 3, h, some())
	tells(t, p, 2, h, some())
	tells(t, p, 1, g, some(), record(api.ToIn, g))
	holds(t, p, 1, record(api.IsIn, h, "a"), record(api.IsEx, six))
	holds(t, p, 2, record(api.IsEx, g, "a"))
	holds(t, p, 3)
	tells(t, p, 2, g, but("b"), record(api.Allow, g, "a"), record(api.Block, g, "b"))
	holds(t, p, 1, record(api.IsIn, h, "a"), record(api.IsEx, six))
}

// P21.3: with as many others told as there is room, one more is refused if it admits something; what is told already is not, and makes room where it goes.
func TestTellWithoutRoom(t *testing.T) {
	for _, room := range []int{1, 2, 5, 40} {
		p := made(t, room)
		for n := range room {
			tells(t, p, 1+n%3, address(n), some("a"), record(api.Allow, address(n), "a"))
		}
		for _, f := range []api.Filter{some("a"), but(), but("a"), some("b", "a")} {
			refuses(t, p, 1, g, f, api.ErrFull)
			refuses(t, p, 2, address(0), f, api.ErrFull) // it is told of VLAN 1 alone
			refuses(t, p, 4094, six, f, api.ErrFull)
		}
		tells(t, p, 1, g, some()) // nothing needs no room
		tells(t, p, 2, address(0), some())
		tells(t, p, 1, address(0), some("a"))
		tells(t, p, 1, address(0), but("b", "c"), record(api.ToEx, address(0), "b", "c"))
		tells(t, p, 1, address(0), some("c", "d"), record(api.ToIn, address(0), "c", "d"))
		refuses(t, p, 1, g, but(), api.ErrFull)
		tells(t, p, 1, address(0), some(), record(api.Block, address(0), "c", "d"))
		tells(t, p, 1, address(0), some()) // it goes once
		tells(t, p, 4094, six, but(), record(api.ToEx, six))
		refuses(t, p, 1, address(0), some("a"), api.ErrFull)
		holds(t, p, 4094, record(api.IsEx, six))
		tells(t, p, 4094, six, some(), record(api.ToIn, six))
		tells(t, p, 1, g, but(), record(api.ToEx, g))
	}
}

// P21.4: all of a VLAN, by the groups' addresses as texts, in whatever order they were told.
func TestAllInOrder(t *testing.T) {
	want := []api.Addr{"\xe0\x00\x00\x00", "\xe0\x00\x00\x01", "\xe0\x00\x01\x00", g, "\xe0\x01\x02\x04", "\xe0\x7f\xff\xff", "\xe0\x80\x00\x00", "\xe9\x00\x00\x00", h, api.Addr("\xff" + strings.Repeat("\x00", 15)), six, "\xff" + six[1:15] + "\x02"}
	for turn := range len(want) {
		p := made(t, 2*len(want))
		var l, m []api.Record
		for i := range want {
			a := want[(i*5+turn)%len(want)]
			tells(t, p, 10, a, some("b", "a"), record(api.Allow, a, "a", "b"))
			tells(t, p, 1+turn, a, but("c"), record(api.ToEx, a, "c"))
			l = append(l, record(api.IsIn, want[i], "a", "b"))
			m = append(m, record(api.IsEx, want[i], "c"))
		}
		if turn == 9 { // both are of VLAN 10: what was told last is told
			l = m
		}
		holds(t, p, 10, l...)
		holds(t, p, 10, l...)
		holds(t, p, 1+turn, m...)
	}
}

// P21.4: of a VLAN of which nothing is told, or that is none, there is nothing, and nothing is forgotten.
func TestAllAndForgetOfNone(t *testing.T) {
	p := made(t, 9)
	for _, v := range []int{1, 4094} {
		tells(t, p, v, g, but(), record(api.ToEx, g))
	}
	for _, v := range []int{0, 2, 4093, 4095, -1, -4094, math.MinInt, math.MaxInt, 1<<32 + 1} {
		holds(t, p, v)
		forgets(t, p, v, 0)
	}
	holds(t, p, 1, record(api.IsEx, g))
	holds(t, p, 4094, record(api.IsEx, g))
}

// P21.4: Forget of many, and of none; room and the groups are as new behind it, other VLANs as they were.
func TestForget(t *testing.T) {
	p := made(t, 5)
	for round := range 3 {
		forgets(t, p, 1, 0)
		for n := range 4 {
			tells(t, p, 1, address(n), but("a"), record(api.ToEx, address(n), "a"))
		}
		if round == 0 {
			tells(t, p, 2, g, some("a"), record(api.Allow, g, "a"))
		}
		refuses(t, p, 3, h, but(), api.ErrFull)
		tells(t, p, 1, address(2), some(), record(api.ToIn, address(2)))
		forgets(t, p, 1, 3)
		forgets(t, p, 1, 0)
		holds(t, p, 2, record(api.IsIn, g, "a"))
		tells(t, p, 1, address(0), some())
		tells(t, p, 1, address(1), some("b"), record(api.Allow, address(1), "b"))
		forgets(t, p, 1, 1)
	}
	forgets(t, p, 2, 1)
	forgets(t, p, 2, 0)
}

// P21.3, P21.4: many groups of one VLAN, with many sources.
func TestManyGroups(t *testing.T) {
	p := made(t, 4096)
	var want []api.Record
	all := sources(200)
	for n := range 4096 {
		l := all[n%100 : 100+n%100]
		tells(t, p, 5, address(n), but(l...), record(api.ToEx, address(n), l...))
		want = append(want, record(api.IsEx, address(n), l...))
	}
	holds(t, p, 5, want...)
	refuses(t, p, 5, g, some("a"), api.ErrFull)
	forgets(t, p, 5, 4096)
	tells(t, p, 5, g, some(all...), record(api.Allow, g, all...))
}

// R6: proxies side by side know nothing of one another.
func TestProxiesSideBySide(t *testing.T) {
	p, q := made(t, 1), made(t, 1)
	tells(t, p, 1, g, but(), record(api.ToEx, g))
	holds(t, q, 1)
	tells(t, q, 1, h, some("a"), record(api.Allow, h, "a"))
	tells(t, p, 1, g, but("a"), record(api.Block, g, "a"))
	forgets(t, p, 1, 1)
	holds(t, q, 1, record(api.IsIn, h, "a"))
}

// R5: a filter is as it was, its room too; writing into it or into an answer changes nothing that is kept.
func TestAnswersAreNewMemory(t *testing.T) {
	for _, except := range []bool{false, true} {
		p := made(t, 9)
		for turn := range 2 {
			l := roomy[api.Addr]("mark", "c", "a", "b", "a")
			if _, e := p.Tell(1, g, api.Filter{Except: except, Sources: l}); e != api.OK {
				t.Errorf("turn %d: %d", turn, e)
			}
			untouched(t, "mark", l, "c", "a", "b", "a")
			spoil(l)
			records, _ := p.Tell(1, h, api.Filter{Except: except, Sources: []api.Addr{"a", "b"}})
			spoilAll(records)
			records, _ = p.Tell(1, h, api.Filter{Except: except, Sources: []api.Addr{"b", "c"}})
			if len(records) != 2 {
				t.Errorf("turn %d: %v", turn, records)
			}
			for i := range records {
				other := slices.Clone(records[1-i].Sources)
				spoil(records[i].Sources)
				if !slices.Equal(records[1-i].Sources, other) {
					t.Errorf("turn %d: record %d changed the other one", turn, i)
				}
			}
			spoilAll(records)
			want := []api.Record{record(api.IsIn, g, "a", "b", "c"), record(api.IsIn, h, "b", "c")}
			if except {
				want[0].Kind, want[1].Kind = api.IsEx, api.IsEx
			}
			all := p.All(1)
			spoil(all[0].Sources)
			if !same(all[1:], want[1:]) {
				t.Errorf("turn %d: %v", turn, all)
			}
			spoilAll(all)
			holds(t, p, 1, want...)
			tells(t, p, 1, g, api.Filter{Except: except, Sources: []api.Addr{"a", "b", "c"}})
			tells(t, p, 1, h, api.Filter{Except: except, Sources: []api.Addr{"b", "c"}})
			forgets(t, p, 1, 2)
		}
	}
}

// spoilAll writes into records, their lists and the room behind both.
func spoilAll(l []api.Record) {
	for _, r := range l {
		spoil(r.Sources)
	}
	clear(l[:cap(l)])
}

// R5: addresses that are pieces of a frame are kept by themselves, also where they come again; the frame is not.
func TestFramesAreNotKept(t *testing.T) {
	p := made(t, 9)
	for turn := range 4 {
		frame := strings.Repeat(string(g)+"abcd", 300)
		f := api.Filter{Except: turn%2 == 0, Sources: []api.Addr{api.Addr(frame[804:808])}}
		if _, e := p.Tell(1, api.Addr(frame[800:804]), f); e != api.OK {
			t.Errorf("turn %d: %d", turn, e)
		}
		begin := uintptr(unsafe.Pointer(unsafe.StringData(frame)))
		all := p.All(1)
		for _, kept := range []api.Addr{all[0].Group, all[0].Sources[0]} {
			at := uintptr(unsafe.Pointer(unsafe.StringData(string(kept))))
			if begin <= at && at < begin+uintptr(len(frame)) {
				t.Errorf("turn %d: a piece of the frame is kept", turn)
			}
		}
	}
}
