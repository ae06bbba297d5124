package fdb_test

import (
	"cmp"
	"math"
	"slices"
	"strings"
	"testing"
	"unsafe"

	"siphon/api"
	"siphon/ether"
	"siphon/fdb"
)

const (
	a = api.Mac("\x02aaaaa")
	b = api.Mac("\x02bbbbb")
	c = api.Mac("\x02ccccc")
	g = api.Mac("\x02ggggg")

	lowest  = api.Mac("\x00\x00\x00\x00\x00\x00")
	highest = api.Mac("\xfe\xff\xff\xff\xff\xff")

	last = 1 << 40
)

// made is a table with room for so many, that forgets behind so long.
func made(t *testing.T, room int, age int) *fdb.Table {
	t.Helper()
	d, e := fdb.New(room, age)
	if d == nil || e != api.OK {
		t.Fatalf("room %d, age %d: %v, %d", room, age, d, e)
	}
	return d
}

// learns tells that Learn must answer true.
func learns(t *testing.T, d *fdb.Table, v int, m api.Mac, port int, now int) {
	t.Helper()
	if !d.Learn(v, m, port, now) {
		t.Errorf("Learn of %d, %x, %d, %d: false", v, m, port, now)
	}
}

// refuses tells that Learn must answer false, and change nothing.
func refuses(t *testing.T, d *fdb.Table, v int, m api.Mac, port int, now int) {
	t.Helper()
	was := d.Entries()
	if d.Learn(v, m, port, now) {
		t.Errorf("Learn of %d, %x, %d, %d: true", v, m, port, now)
	}
	holds(t, d, was...)
}

// finds tells that Look must answer that port.
func finds(t *testing.T, d *fdb.Table, v int, m api.Mac, now int, want int) {
	t.Helper()
	if port, is := d.Look(v, m, now); port != want || !is {
		t.Errorf("Look of %d, %x, %d: %d, %v, not %d", v, m, now, port, is, want)
	}
}

// misses tells that Look must find nothing.
func misses(t *testing.T, d *fdb.Table, v int, m api.Mac, now int) {
	t.Helper()
	if port, is := d.Look(v, m, now); port != 0 || is {
		t.Errorf("Look of %d, %x, %d: %d, %v", v, m, now, port, is)
	}
}

// expires and flushes tell how many must go.
func expires(t *testing.T, d *fdb.Table, now int, want int) {
	t.Helper()
	if n := d.Expire(now); n != want {
		t.Errorf("Expire of %d: %d, not %d", now, n, want)
	}
}

func flushes(t *testing.T, d *fdb.Table, port int, want int) {
	t.Helper()
	if n := d.Flush(port); n != want {
		t.Errorf("Flush of %d: %d, not %d", port, n, want)
	}
}

// holds tells that the entries must be just these, in this order.
func holds(t *testing.T, d *fdb.Table, want ...fdb.Entry) {
	t.Helper()
	if l := d.Entries(); !slices.Equal(l, want) {
		t.Errorf("entries %v, not %v", l, want)
	}
}

// entry is one with the parts in the order in which Learn takes them.
func entry(v int, m api.Mac, port int, at int) fdb.Entry {
	return fdb.Entry{Vlan: v, Mac: m, Port: port, At: at}
}

// station is the address of that number.
func station(n int) api.Mac {
	return api.Mac([]byte{2, 0, 0, 0, byte(n >> 8), byte(n)})
}

// P13.1: of room and age the least and the greatest are well.
func TestNew(t *testing.T) {
	for _, room := range []int{1, 2, 500, 1023, 1024} {
		for _, age := range []int{1, 2, 300, 999999, 1000000} {
			d := made(t, room, age)
			holds(t, d)
			misses(t, d, 1, a, 0)
			expires(t, d, last, 0)
			flushes(t, d, 0, 0)
			learns(t, d, 1, a, 3, 5)
			finds(t, d, 1, a, 5+age-1, 3)
			misses(t, d, 1, a, 5+age)
		}
	}
}

// P13.1, R3: what is beyond them is refused, whatever the other one is.
func TestNewRefuses(t *testing.T) {
	for _, room := range []int{0, -1, 1025, math.MinInt, math.MaxInt, 1<<32 + 1} {
		for _, age := range []int{1, 300, 1000000, 0, 1000001} {
			if d, e := fdb.New(room, age); d != nil || e != api.ErrArg {
				t.Errorf("room %d, age %d: %v, %d", room, age, d, e)
			}
		}
	}
	for _, age := range []int{0, -1, 1000001, math.MinInt, math.MaxInt, 1<<32 + 1} {
		for _, room := range []int{1, 500, 1024, 0, 1025} {
			if d, e := fdb.New(room, age); d != nil || e != api.ErrArg {
				t.Errorf("room %d, age %d: %v, %d", room, age, d, e)
			}
		}
	}
}

// nothing tells that no call may come to anything.
func nothing(t *testing.T, d *fdb.Table) {
	t.Helper()
	for _, now := range []int{0, 5, last, -1, last + 1} {
		for _, v := range []int{0, 1, 4094} {
			refuses(t, d, v, a, 0, now)
			refuses(t, d, v, "", -1, now)
			misses(t, d, v, a, now)
			misses(t, d, v, "", now)
		}
		expires(t, d, now, 0)
	}
	for _, port := range []int{-1, 0, 15, 16} {
		flushes(t, d, port, 0)
	}
	holds(t, d)
}

// P13.1: all calls of a nil table.
func TestNilTable(t *testing.T) {
	nothing(t, nil)
}

// R1: a table that New did not make has no room.
func TestTableOfNoughts(t *testing.T) {
	var d fdb.Table
	nothing(t, &d)
	nothing(t, new(fdb.Table))
}

// P13.2: the document's example.
func TestTheDocumentsExample(t *testing.T) {
	d := made(t, 1, 300)
	learns(t, d, 1, a, 0, 5)
	learns(t, d, 1, b, 1, 6)
	misses(t, d, 1, a, 6)
	finds(t, d, 1, b, 6, 1)
	holds(t, d, entry(1, b, 1, 6))
}

// P13.2: a VLAN, a port, a time and an address at their edges.
func TestLearnAtTheEdges(t *testing.T) {
	d := made(t, 1, 7)
	for _, v := range []int{1, 2, 10, 4093, 4094} {
		for _, m := range []api.Mac{a, lowest, highest, "\xfe\x01\x01\x01\x01\x01", "\x00\x00\x00\x00\x00\x01", "\x02\xc3\x28\xff\x00\x80"} {
			for _, port := range []int{0, 1, 14, 15} {
				for _, now := range []int{0, 1, 12345, last - 1, last} {
					learns(t, d, v, m, port, now)
					holds(t, d, entry(v, m, port, now))
					finds(t, d, v, m, now, port)
				}
			}
		}
	}
}

// P13.2: what is beyond them is refused, of an empty table, one with room and a full one.
func TestLearnRefuses(t *testing.T) {
	d := made(t, 2, 10)
	for _, m := range []api.Mac{a, b, c} {
		for _, v := range []int{0, -1, 4095, 4096, math.MinInt, math.MaxInt, 1<<32 + 1} {
			refuses(t, d, v, m, 1, 5)
		}
		for _, port := range []int{-1, 16, 17, math.MinInt, math.MaxInt, 1 << 32} {
			refuses(t, d, 1, m, port, 5)
		}
		for _, now := range []int{-1, last + 1, math.MinInt, math.MaxInt} {
			refuses(t, d, 1, m, 1, now)
		}
		for _, wrong := range []api.Mac{"", "\x02", m[:5], m + "a", m + m, "\x03", "\x03aaaa", "\x03aaaaaa"} {
			refuses(t, d, 1, wrong, 1, 5)
		}
		for _, many := range []api.Mac{"\x01" + m[1:], "\x03" + m[1:], "\xff" + m[1:], "\xff\xff\xff\xff\xff\xff", "\x01\x00\x5e\x01\x02\x03", "\x33\x33\x00\x00\x00\x01"} {
			refuses(t, d, 1, many, 1, 5)
		}
		learns(t, d, 1, m, 1, 5)
	}
	holds(t, d, entry(1, b, 1, 5), entry(1, c, 1, 5))
}

// P13.2: whatever the first byte is, an address of many stations is refused, and no other one.
func TestLearnOfEachFirstByte(t *testing.T) {
	for n := range 256 {
		m := api.Mac([]byte{byte(n), 1, 1, 1, 1, 1})
		d := made(t, 1, 1)
		if is := d.Learn(1, m, 0, 0); is != (n%2 == 0) || is == ether.Many(m) {
			t.Errorf("%x: %v", m, is)
		}
	}
}

// P13.2: who is heard again is known by the last, the time of which may be less; a full table knows it too, and nobody goes.
func TestLearnAgain(t *testing.T) {
	d := made(t, 2, 10)
	learns(t, d, 1, a, 3, 5)
	learns(t, d, 1, b, 4, 7)
	holds(t, d, entry(1, a, 3, 5), entry(1, b, 4, 7))
	learns(t, d, 1, a, 8, 9)
	holds(t, d, entry(1, a, 8, 9), entry(1, b, 4, 7))
	learns(t, d, 1, a, 0, 2)
	holds(t, d, entry(1, a, 0, 2), entry(1, b, 4, 7))
	learns(t, d, 1, b, 4, 8)
	holds(t, d, entry(1, a, 0, 2), entry(1, b, 4, 8))
	finds(t, d, 1, a, 11, 0)
	misses(t, d, 1, a, 12)
	learns(t, d, 1, a, 5, 12) // it was old, and stood there still
	holds(t, d, entry(1, a, 5, 12), entry(1, b, 4, 8))
	finds(t, d, 1, a, 12, 5)
}

// P13.2: a station of one VLAN is another one than that of another VLAN.
func TestVlansAreApart(t *testing.T) {
	d := made(t, 9, 10)
	learns(t, d, 1, a, 3, 5)
	misses(t, d, 2, a, 5)
	learns(t, d, 2, a, 4, 6)
	learns(t, d, 4094, a, 5, 7)
	finds(t, d, 1, a, 7, 3)
	finds(t, d, 2, a, 7, 4)
	finds(t, d, 4094, a, 7, 5)
	misses(t, d, 3, a, 7)
	holds(t, d, entry(1, a, 3, 5), entry(2, a, 4, 6), entry(4094, a, 5, 7))
}

// P13.2: of a full table the entry with the least At goes; of more of them that of the least Vlan; of these that of the least Mac.
func TestWhoGoes(t *testing.T) {
	for i, one := range []struct {
		has  []fdb.Entry
		goes int
	}{
		{[]fdb.Entry{entry(1, a, 0, 7), entry(1, b, 0, 6), entry(1, c, 0, 8)}, 1},
		{[]fdb.Entry{entry(1, a, 0, 7), entry(2, b, 0, 8), entry(3, c, 0, 6)}, 2},
		{[]fdb.Entry{entry(9, c, 9, 4), entry(1, a, 0, 5), entry(1, b, 0, 5)}, 0},
		{[]fdb.Entry{entry(3, a, 0, 6), entry(1, c, 2, 6), entry(2, b, 1, 6)}, 1},
		{[]fdb.Entry{entry(10, a, 0, 6), entry(9, b, 1, 6), entry(9, c, 2, 5)}, 2},
		{[]fdb.Entry{entry(256, a, 0, 6), entry(2, g, 1, 6), entry(10, b, 2, 6)}, 1},
		{[]fdb.Entry{entry(1, c, 0, 6), entry(1, a, 2, 6), entry(1, b, 1, 6)}, 1},
		{[]fdb.Entry{entry(1, c, 0, 6), entry(1, b, 2, 6), entry(2, a, 1, 6)}, 1},
		{[]fdb.Entry{entry(2, a, 0, 6), entry(2, b, 2, 6), entry(1, a, 1, 7)}, 0},
		{[]fdb.Entry{entry(1, "\xfeaaaaa", 0, 6), entry(1, "\x80aaaaa", 2, 6), entry(1, "\x7eaaaaa", 1, 6)}, 2},
		{[]fdb.Entry{entry(1, "\x02aaaab", 0, 0), entry(1, "\x02aaaa\xff", 2, 0), entry(1, "\x02aaaa\x00", 1, 0)}, 2},
		{[]fdb.Entry{entry(4094, highest, 15, last), entry(4093, highest, 15, last), entry(4094, lowest, 0, last)}, 1},
		{[]fdb.Entry{entry(4094, highest, 15, last)}, 0},
		{[]fdb.Entry{entry(1, lowest, 0, 0)}, 0},
	} {
		d := made(t, len(one.has), 1000)
		for _, e := range one.has {
			learns(t, d, e.Vlan, e.Mac, e.Port, e.At)
		}
		fresh := entry(5, "\x04fresh", 7, 9)
		learns(t, d, fresh.Vlan, fresh.Mac, fresh.Port, fresh.At)
		want := append(slices.Delete(slices.Clone(one.has), one.goes, one.goes+1), fresh)
		slices.SortFunc(want, rising)
		if l := d.Entries(); !slices.Equal(l, want) {
			t.Errorf("case %d: %v, not %v", i, l, want)
		}
		finds(t, d, fresh.Vlan, fresh.Mac, 9, 7)
	}
}

// rising is the order of entries.
func rising(e, f fdb.Entry) int {
	return cmp.Or(cmp.Compare(e.Vlan, f.Vlan), strings.Compare(string(e.Mac), string(f.Mac)))
}

// P13.2: the one that goes makes room for a new one that has a lesser At than all, so the new one goes next.
func TestTheNewOneIsNotHeldAgainstTheOthers(t *testing.T) {
	d := made(t, 2, 1000)
	learns(t, d, 5, b, 1, 10)
	learns(t, d, 5, c, 1, 11)
	learns(t, d, 1, a, 2, 3)
	holds(t, d, entry(1, a, 2, 3), entry(5, c, 1, 11))
	learns(t, d, 1, b, 3, 2)
	holds(t, d, entry(1, b, 3, 2), entry(5, c, 1, 11))
}

// P13.2: nobody goes while there is room: what is old takes room till it expires.
func TestOldEntriesTakeRoom(t *testing.T) {
	d := made(t, 3, 2)
	learns(t, d, 1, a, 0, 0)
	learns(t, d, 1, b, 0, 50)
	holds(t, d, entry(1, a, 0, 0), entry(1, b, 0, 50))
	learns(t, d, 1, c, 0, 60)
	holds(t, d, entry(1, a, 0, 0), entry(1, b, 0, 50), entry(1, c, 0, 60))
	learns(t, d, 1, g, 0, 90)
	holds(t, d, entry(1, b, 0, 50), entry(1, c, 0, 60), entry(1, g, 0, 90))
	expires(t, d, 60, 1)
	learns(t, d, 1, a, 0, 91)
	holds(t, d, entry(1, a, 0, 91), entry(1, c, 0, 60), entry(1, g, 0, 90))
	flushes(t, d, 0, 3)
	learns(t, d, 1, a, 0, 1)
	learns(t, d, 1, b, 0, 2)
	learns(t, d, 1, c, 0, 3)
	holds(t, d, entry(1, a, 0, 1), entry(1, b, 0, 2), entry(1, c, 0, 3))
}

// P13.2, P13.4: tables of every room are full with so many, and not with one less.
func TestRoom(t *testing.T) {
	for _, room := range []int{1, 2, 3, 64, 1023, 1024} {
		d := made(t, room, 1000000)
		var want []fdb.Entry
		for n := range room {
			learns(t, d, 1, station(n), n%16, 9)
			want = append(want, entry(1, station(n), n%16, 9))
		}
		holds(t, d, want...)
		learns(t, d, 1, station(room), 3, 9)
		holds(t, d, append(want[1:], entry(1, station(room), 3, 9))...)
		misses(t, d, 1, station(0), 9)
	}
}

// P13.3: an entry is old at just its At and the age, added.
func TestOld(t *testing.T) {
	for _, age := range []int{1, 2, 10, 1000000} {
		for _, at := range []int{0, 1, 7, 1 << 32, last - 1000000} {
			d := made(t, 2, age)
			learns(t, d, 1, a, 3, at)
			learns(t, d, 2, b, 4, at+1)
			finds(t, d, 1, a, at+age-1, 3)
			expires(t, d, at+age-1, 0)
			misses(t, d, 1, a, at+age)
			holds(t, d, entry(1, a, 3, at), entry(2, b, 4, at+1))
			expires(t, d, at+age, 1)
			holds(t, d, entry(2, b, 4, at+1))
			misses(t, d, 1, a, at)
			expires(t, d, at+age, 0)
		}
	}
	d := made(t, 1, 1)
	learns(t, d, 1, a, 3, last)
	finds(t, d, 1, a, last, 3)
	expires(t, d, last, 0)
	holds(t, d, entry(1, a, 3, last))
}

// P13.3: Look changes nothing: what was old at one time is none at a lesser one.
func TestLookKeepsTheEntry(t *testing.T) {
	d := made(t, 1, 10)
	learns(t, d, 1, a, 0, 20)
	misses(t, d, 1, a, 30)
	finds(t, d, 1, a, 29, 0)
	finds(t, d, 1, a, 0, 0)
	finds(t, d, 1, a, 19, 0)
	holds(t, d, entry(1, a, 0, 20))
}

// P13.3, R1: Look of what can't have been learnt.
func TestLookFindsNothing(t *testing.T) {
	d := made(t, 3, 10)
	learns(t, d, 1, a, 3, 5)
	learns(t, d, 4094, b, 3, 5)
	for _, v := range []int{0, -1, 2, 4093, 4095, math.MinInt, math.MaxInt, 1<<32 + 1} {
		misses(t, d, v, a, 5)
	}
	for _, m := range []api.Mac{"", a[:5], a + "a", a + a, b, "\x03aaaaa", "\xff\xff\xff\xff\xff\xff", lowest} {
		misses(t, d, 1, m, 5)
	}
	finds(t, d, 1, a, 5, 3)
}

// A time that may not be: nothing is done, and nothing found.
func TestWrongTimes(t *testing.T) {
	d := made(t, 3, 10)
	learns(t, d, 1, a, 3, 0)
	learns(t, d, 1, b, 4, last)
	want := []fdb.Entry{entry(1, a, 3, 0), entry(1, b, 4, last)}
	for _, now := range []int{-1, -2, last + 1, last + 10, last + 11, math.MinInt, math.MaxInt} {
		misses(t, d, 1, a, now)
		misses(t, d, 1, b, now)
		expires(t, d, now, 0)
		refuses(t, d, 1, a, 5, now)
		refuses(t, d, 1, c, 5, now)
		holds(t, d, want...)
	}
	finds(t, d, 1, a, 0, 3)
	misses(t, d, 1, a, last)
	finds(t, d, 1, b, 0, 4)
	finds(t, d, 1, b, last, 4)
	expires(t, d, 0, 0)
	expires(t, d, last, 1)
	holds(t, d, want[1])
}

// P13.3: Expire takes all that are old, of every VLAN and port, and tells how many.
func TestExpire(t *testing.T) {
	d := made(t, 100, 10)
	var want []fdb.Entry
	for n := range 100 {
		learns(t, d, 1+n%3, station(n), n%16, n)
	}
	for n := range 100 {
		if n >= 50 {
			want = append(want, entry(1+n%3, station(n), n%16, n))
		}
	}
	slices.SortFunc(want, rising)
	expires(t, d, 9, 0)
	expires(t, d, 10, 1)
	expires(t, d, 10, 0)
	expires(t, d, 59, 49)
	holds(t, d, want...)
	expires(t, d, 30, 0)
	expires(t, d, 1000, 50)
	holds(t, d)
	expires(t, d, 1000, 0)
}

// P13.3: Flush of ports with no entries, one, and all of them.
func TestFlush(t *testing.T) {
	d := made(t, 9, 10)
	for _, port := range []int{-1, 0, 15, 16} {
		flushes(t, d, port, 0)
	}
	learns(t, d, 1, a, 0, 5)
	learns(t, d, 2, a, 15, 5)
	learns(t, d, 1, b, 15, 6)
	learns(t, d, 4, c, 15, 500)
	for _, port := range []int{1, 14, -1, 16, math.MinInt, math.MaxInt, 1 << 32} {
		flushes(t, d, port, 0)
	}
	holds(t, d, entry(1, a, 0, 5), entry(1, b, 15, 6), entry(2, a, 15, 5), entry(4, c, 15, 500))
	flushes(t, d, 0, 1)
	flushes(t, d, 0, 0)
	holds(t, d, entry(1, b, 15, 6), entry(2, a, 15, 5), entry(4, c, 15, 500))
	flushes(t, d, 15, 3)
	flushes(t, d, 15, 0)
	holds(t, d)
	learns(t, d, 1, a, 15, 5)
	learns(t, d, 1, a, 3, 5)
	flushes(t, d, 15, 0)
	flushes(t, d, 3, 1)
	misses(t, d, 1, a, 5)
}

// P13.3: entries stand by Vlan as a number, of one by Mac as a text.
func TestEntriesInOrder(t *testing.T) {
	want := []fdb.Entry{
		entry(1, lowest, 9, 5), entry(1, a, 0, 9), entry(1, b, 5, 3), entry(1, "\x7e\xff\xff\xff\xff\xff", 1, 1), entry(1, "\x80\x00\x00\x00\x00\x00", 1, 1), entry(1, highest, 2, 2),
		entry(2, "\x02\x00\x00\x00\x00\x7f", 1, 1), entry(2, "\x02\x00\x00\x00\x00\x80", 0, 0), entry(2, a, 3, 3),
		entry(10, lowest, 1, 0), entry(256, lowest, 1, 0), entry(4094, lowest, 1, 0),
	}
	for turn := range len(want) {
		d := made(t, len(want), 10)
		for i := range want {
			e := want[(i*5+turn)%len(want)]
			learns(t, d, e.Vlan, e.Mac, e.Port, e.At)
		}
		holds(t, d, want...)
		holds(t, d, want...)
	}
}

// R5: each answer of Entries is a list of its own, its spare room too, and no door into the table.
func TestEntriesAreNewMemory(t *testing.T) {
	d := made(t, 5, 10)
	learns(t, d, 1, a, 0, 5)
	learns(t, d, 1, b, 1, 6)
	learns(t, d, 1, c, 2, 7)
	first, second := d.Entries(), d.Entries()
	clear(first[:cap(first)])
	want := []fdb.Entry{entry(1, a, 0, 5), entry(1, b, 1, 6), entry(1, c, 2, 7)}
	if !slices.Equal(second, want) {
		t.Errorf("%v", second)
	}
	holds(t, d, want...)
	learns(t, d, 1, a, 9, 9)
	if !slices.Equal(second, want) {
		t.Errorf("%v", second)
	}
}

// R5: an address that is a piece of a frame is kept by itself, also where it is heard again; the frame is not.
func TestFramesAreNotKept(t *testing.T) {
	d := made(t, 5, 10)
	for now := range 3 {
		frame := strings.Repeat("\x02bbbbb", 300)
		learns(t, d, 1, api.Mac(frame[600:606]), 0, now)
		holds(t, d, entry(1, b, 0, now))
		begin := uintptr(unsafe.Pointer(unsafe.StringData(frame)))
		kept := uintptr(unsafe.Pointer(unsafe.StringData(string(d.Entries()[0].Mac))))
		if begin <= kept && kept < begin+uintptr(len(frame)) {
			t.Error("a piece of the frame is kept")
		}
	}
}

// R6: tables side by side know nothing of one another.
func TestTablesSideBySide(t *testing.T) {
	x, y := made(t, 1, 10), made(t, 2, 20)
	learns(t, x, 1, a, 3, 5)
	holds(t, y)
	learns(t, y, 1, a, 4, 6)
	learns(t, y, 1, b, 5, 7)
	finds(t, x, 1, a, 6, 3)
	finds(t, y, 1, a, 6, 4)
	learns(t, x, 1, b, 6, 8)
	holds(t, x, entry(1, b, 6, 8))
	flushes(t, y, 6, 0)
	expires(t, x, 20, 1)
	holds(t, y, entry(1, a, 4, 6), entry(1, b, 5, 7))
}

// model is a table that goes by the document's words, one by one.
type model struct {
	room    int
	age     int
	entries []fdb.Entry
}

func (m *model) place(v int, s api.Mac) int {
	return slices.IndexFunc(m.entries, func(e fdb.Entry) bool { return e.Vlan == v && e.Mac == s })
}

func (m *model) learn(e fdb.Entry) {
	if i := m.place(e.Vlan, e.Mac); i >= 0 {
		m.entries[i] = e
		return
	}
	if len(m.entries) == m.room {
		slices.SortFunc(m.entries, func(e, f fdb.Entry) int { return cmp.Or(cmp.Compare(e.At, f.At), rising(e, f)) })
		m.entries = m.entries[1:]
	}
	m.entries = append(m.entries, e)
}

func (m *model) forget(goes func(e fdb.Entry) bool) int {
	n := len(m.entries)
	m.entries = slices.DeleteFunc(m.entries, goes)
	return n - len(m.entries)
}

// P13.2, P13.3, P13.4, R6: whatever is done, in whatever order, the table answers as the model does.
func TestTableAsTheModel(t *testing.T) {
	seed := uint32(13)
	random := func(n int) int {
		seed = seed*1664525 + 1013904223
		return int(seed>>8) % n
	}
	for range 150 {
		m := &model{room: 1 + random(9), age: 1 + random(12)}
		d, now := made(t, m.room, m.age), 0
		for range 200 {
			now += random(3)
			v, s, port, at := 1+random(3), station(random(6)), random(4), max(0, now-random(4))
			switch random(9) {
			case 0, 1, 2, 3, 4:
				learns(t, d, v, s, port, at)
				m.learn(entry(v, s, port, at))
				finds(t, d, v, s, at, port)
				finds(t, d, v, s, at+m.age-1, port)
				misses(t, d, v, s, at+m.age)
			case 5:
				expires(t, d, at, m.forget(func(e fdb.Entry) bool { return at >= e.At+m.age }))
			case 6:
				if random(4) == 0 {
					flushes(t, d, port, m.forget(func(e fdb.Entry) bool { return e.Port == port }))
				}
			default:
				if i := m.place(v, s); i >= 0 && at < m.entries[i].At+m.age {
					finds(t, d, v, s, at, m.entries[i].Port)
				} else {
					misses(t, d, v, s, at)
				}
			}
			want := slices.Clone(m.entries)
			slices.SortFunc(want, rising)
			holds(t, d, want...)
			if len(want) > m.room {
				t.Errorf("%d entries, room for %d", len(want), m.room)
			}
		}
	}
}
